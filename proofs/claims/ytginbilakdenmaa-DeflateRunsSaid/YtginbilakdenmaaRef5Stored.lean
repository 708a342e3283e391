/- The document's own Stored (chapter 5): of at most 65535 bytes one block. -/
import Derived.Test.YtginbilakdenmaaRef4Join
import Derived.Test.YtginbilakdenmaaRow5
namespace Go.Proofs.Ytginbilakdenmaa
open Go.RowKit
set_option linter.unusedVariables false
set_option maxRecDepth 100000

set_option maxRecDepth 100000 in
set_option maxHeartbeats 2000000 in
theorem refStored (A : Option Addr) (n c : Nat) (zs : List Int) (w : World) (hb : Byt w w.heap.size A n c zs) (hn : n ≤ 65535) :
    Calls Try.prog 20 #[.slice A n c] w fun e w' => ∃ v, e = .returned v ∧ Mine w' w.heap.size v (joinZ [zs]).length (joinZ [zs]) ∧ Below w.heap.size w w' := by
  have HB := Lib.hid hb
  have HLEN := Lib.hid hb.len
  clear hb
  obtain ⟨Y, hY⟩ : ∃ Y : Int, bits .xor .i64 (-1) (n : Int) = Y := ⟨_, rfl⟩
  have hYv : Y = -(n : Int) - 1 := by rw [← hY]; exact not_int n (by omega)
  have hY2 : bits .xor .i64 (if IntKind.i64.signed = true then (-1) else 9223372036854775807) (n : Int) = Y := hY
  obtain ⟨V1, hV1⟩ : ∃ V : Int, (n : Int) % 256 = V := ⟨_, rfl⟩
  obtain ⟨V2, hV2⟩ : ∃ V : Int, (n : Int) / 256 = V := ⟨_, rfl⟩
  obtain ⟨V3, hV3⟩ : ∃ V : Int, Y % 256 = V := ⟨_, rfl⟩
  obtain ⟨V4, hV4⟩ : ∃ V : Int, Y / 256 % 256 = V := ⟨_, rfl⟩
  have hmin : min (n : Int) 65535 = n := by omega
  have hcp := HB.out.cap
  have hsl0 : ∀ W, (Instr.slice 29 (.slice A n c) none (some (.int .i64 (n : Int))) none).run Try.prog W = .ok (.slice (cutA A c 0) n c) W := fun W => run_cut0 (P := Try.prog) W 29 5 Try.underlying29 (fun w => by kernel_rfl) A n c n hcp
  have hsl1 : ∀ W, (Instr.slice 29 (.slice A n c) (some (.int .i64 (n : Int))) none none).run Try.prog W = .ok (.slice (cutA A c n) (n - n) (c - n)) W := fun W => run_cutR (P := Try.prog) W 29 5 Try.underlying29 (fun w => by kernel_rfl) A n c n (Nat.le_refl _) hcp
  obtain ⟨A0, hA0⟩ : ∃ A0, cutA A c 0 = A0 := ⟨_, rfl⟩
  obtain ⟨A1, hA1⟩ : ∃ A1, cutA A c n = A1 := ⟨_, rfl⟩
  have hb0 := HB.out.first (m := n) (Nat.le_refl _)
  rw [hA0, List.take_of_length_le (by rw [HLEN.out]; exact Nat.le_refl _)] at hb0
  rw [hA0] at hsl0
  rw [hA1] at hsl1
  have HB0 := Lib.hid hb0
  have hrg : ∀ z ∈ [1, V1, V2, V3, V4], 0 ≤ z ∧ z < 256 := fun z hz => by
    simp at hz
    rcases hz with rfl | rfl | rfl | rfl | rfl <;> omega
  have HJ : Hid ([1, V1, V2, V3, V4] ++ zs = joinZ [zs]) := Lib.hid (by
    show _ = [1, ((zs.length % 256 : Nat) : Int), ((zs.length / 256 : Nat) : Int), 255 - ((zs.length % 256 : Nat) : Int), 255 - ((zs.length / 256 : Nat) : Int)] ++ zs
    rw [HLEN.out, show V1 = ((n % 256 : Nat) : Int) by omega, show V2 = ((n / 256 : Nat) : Int) by omega, show V3 = 255 - ((n % 256 : Nat) : Int) by omega, show V4 = 255 - ((n / 256 : Nat) : Int) by omega])
  have HA1' := Lib.hid (((Mine.nil w w.heap.size).kept ((Below.refl _ _).alloc (Nat.le_refl _) (.cells #[.int .u8 1, .int .u8 V1, .int .u8 V2, .int .u8 V3, .int .u8 V4] 5))).appendT (byt_lit w (0, 0) [1, V1, V2, V3, V4] hrg 5 rfl _ rfl) 29 (by omega) (by simp))
  clear hA0 hA1 hb0 hrg hYv
  go_enter Try.func20, Try.ntmps20
  go_wp2
  go_loopw [0, 3] (fun b v wr => b = .slice A n c ∧ v = .slice none 0 0 ∧ wr = w) (fun _ _ _ => 0)
  case atStart => exact ⟨rfl, rfl, rfl⟩
  case round =>
    obtain ⟨rfl, rfl, rfl⟩ := hrel
    go_wp2_with (first
      | (at_builtin; obtain ⟨v6, w6, hrun, hm6, hb6, _, _, _⟩ := HA1'.out; obtain ⟨A6, c6, rfl, _⟩ := hm6.byt; refine Lib.wpList_append_run_sl _ rfl (.tmp 13) (.tmp 27) 29 rfl _ _ rfl rfl hrun ?_; clear hrun; have HB6 := Lib.hid (((Below.refl _ _).alloc (Nat.le_refl _) _).trans hb6); have HA2 := Lib.hid (hm6.appendT (HB0.out.below HB6.out (Nat.le_refl _)) 29 (by omega) HB6.out.size); clear hm6 hb6)
      | (at_builtin; obtain ⟨v7, w7, hrun, hm7, hb7, _, _, _⟩ := HA2.out; obtain ⟨A7, c7, rfl, _⟩ := hm7.byt; refine Lib.wpList_append_run_sl _ rfl (.tmp 29) (.tmp 32) 29 rfl _ _ rfl rfl hrun ?_; clear hrun; have HB7 := Lib.hid (HB6.out.trans hb7); have HM7 := Lib.hid hm7; clear hm7 hb7))
    go_ret
    exact ⟨_, rfl, HM7.out.recast (by simpa using HJ.out), HB7.out⟩
end Go.Proofs.Ytginbilakdenmaa
