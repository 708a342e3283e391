/- What the document's own Copy answers: the bytes in new memory. -/
import Derived.Test.YtojbhckgegoldaaLit
namespace Go.Proofs.Ytojbhckgegoldaa
open Go.RowKit
set_option linter.unusedVariables false
set_option maxRecDepth 100000

theorem Mine.kept {w w' : World} {base p : Nat} {v : Value} {zs : List Int} (h : Mine w base v p zs) (hb : Below w.heap.size w w') : Mine w' base v p zs := by
  refine ⟨⟨h.own.1, ?_⟩, h.rng⟩
  rcases h.own.2 with h0 | ⟨b, cap, cur, hv, hbb, hh, hr⟩
  · exact .inl h0
  · refine .inr ⟨b, cap, cur, hv, hbb, ?_, hr⟩
    have hlt : b < w.heap.size := by
      rcases Nat.lt_or_ge b w.heap.size with hlt | hge
      · exact hlt
      · rw [Array.getElem?_eq_none hge] at hh; cases hh
    rw [hb.block b hlt]
    exact hh
theorem byt_lit0 (w : World) (z : Int) (hz : 0 ≤ z ∧ z < 256) : Byt (w.alloc (.cells #[.int .u8 z] 5)) (w.heap.size + 1) (some ⟨w.heap.size, 0, none⟩) 1 1 [z] :=
  byt_lit w (0, 0) [z] (fun y hy => by simp at hy; subst hy; exact hz) 1 rfl _ rfl
set_option maxRecDepth 100000 in
set_option maxHeartbeats 1000000 in
theorem refCopy (A : Option Addr) (n c : Nat) (zs : List Int) (w : World) (hb : Byt w w.heap.size A n c zs) (hn : n ≤ 100000000) :
    Calls Try.prog 71 #[.slice A n c] w fun e w' => ∃ v, e = .returned v ∧ Mine w' w.heap.size v n zs ∧ Below w.heap.size w w' := by
  have HB := Lib.hid hb
  clear hb
  go_enter Try.func71, Try.ntmps71
  go_wp2
  go_loopw [3, 4] (fun v i wr => ∃ k : Nat, k ≤ n ∧ i = .int .i64 k ∧ Hid (Mine wr w.heap.size v k (zs.take k)) ∧ Hid (Below w.heap.size w wr)) (fun _ i _ => n - (intOf i).toNat)
  case atStart => exact ⟨0, Nat.zero_le _, rfl, Mine.nil _ _, Below.refl _ _⟩
  case round =>
    obtain ⟨k, hk, rfl, hmi, hbe⟩ := hrel
    by_cases hlt : k < n
    · have hby := HB.out.below hbe.out (Nat.le_refl _)
      obtain ⟨b, o, rfl, _, hc⟩ := hby.cell (by omega)
      have ck := hc k hlt
      have hgz := HB.out.getD k
      have HT : Hid (zs.take (k + 1) = zs.take k ++ [zs.getD k 0]) := Lib.hid (take_snocZ zs k (by rw [HB.out.len]; exact hlt))
      obtain ⟨z, hz⟩ : ∃ z, zs.getD k 0 = z := ⟨_, rfl⟩
      rw [hz] at ck hgz HT
      have HAP := Lib.hid ((hmi.out.kept ((Below.refl _ _).alloc (Nat.le_refl _) (.cells #[.int .u8 z] 5))).append (byt_lit0 wr z hgz) 25 (by omega) (Nat.le_trans hbe.out.size (by simp)))
      obtain ⟨A6, c6, rfl, _⟩ := hmi.out.byt
      clear hby hc hz
      go_wp2_with (first
        | (at_builtin; obtain ⟨v6, w6, hrun, hmi6, hbe6⟩ := HAP.out; refine Lib.wpList_append_run_sl _ rfl (.tmp 11) (.tmp 16) 25 rfl _ _ rfl rfl hrun ?_; clear hrun; have HBE6 := Lib.hid hbe6; have HMI6 := Lib.hid hmi6; clear hbe6 hmi6))
      go_roundw
      case rel => exact ⟨k + 1, by omega, by go_num, Lib.hid (by rw [HT.out]; exact HMI6.out), Lib.hid ((hbe.out.alloc hbe.out.size _).trans HBE6.out)⟩
      case measure => simp [intOf]; omega
    · obtain rfl : k = n := by omega
      rw [List.take_of_length_le (by rw [HB.out.len]; exact Nat.le_refl _)] at hmi
      go_wp2
      go_ret
      exact ⟨_, rfl, hmi.out, hbe.out⟩
end Go.Proofs.Ytojbhckgegoldaa
