/- Chapter 8, the project's own Encode and Decode: what they answer. -/
import Derived.Test.YtpnnejedfccckaaEu8
import Derived.Test.YtpnnejedfccckaaSc8
import Derived.Test.YtpnnejedfccckaaDe8
namespace Go.Proofs.Ytpnnejedfccckaa
open Go.RowKit
set_option linter.unusedVariables false
set_option maxRecDepth 100000

theorem LR.new (w : World) (M : Nat) (A : Option Addr) (n c : Nat) : LR w (w.alloc (.cells #[.slice A n c, .int .i64 0, .int .i64 0, .slice none 0 0, .int .i64 0, .int .i64 0, .slice none 0 0, .int .i64 M] 42)) w.heap.size A n c 0 0 (.slice none 0 0) [] 0 0 (.slice none 0 0) [] M :=
  ⟨heap_alloc_new w _, Mine.nil _ _, ⟨rfl, .inl ⟨rfl, rfl⟩⟩, (fun h => by cases h), (fun h => by cases h), (fun b hb => by cases hb), Nat.le_refl _, Nat.zero_le _, (Below.refl _ _).alloc (Nat.le_refl _) _⟩
set_option maxHeartbeats 2000000 in
theorem pDecode (A : Option Addr) (n c : Nat) (most : Int) (zs : List Int) (w : World) (hb : Byt w w.heap.size A n c zs) (hn : n ≤ 28000) (m0 : -9223372036854775808 ≤ most) (m1 : most ≤ 9223372036854775807) (R : List Int × Int) (hR : lzDec (max most 0).toNat zs = R) :
    Calls Try.prog 9 #[.slice A n c, .int .i64 most] w (ReadPost w R) := by
  obtain ⟨M, hM⟩ : ∃ M : Nat, max most 0 = M := ⟨(max most 0).toNat, by omega⟩
  rw [hM, Int.toNat_natCast] at hR
  have hM1 : M ≤ 9223372036854775807 := by omega
  have HRD := Lib.hid (lreadC w _ w.heap.size n c M A zs (LR.new w M A n c) hb hn hM1 R hR)
  obtain ⟨O, E⟩ := R
  have HE : E = 0 ∨ E ≠ 0 := by omega
  clear hb hR
  rcases HE with rfl | he
  · go_enter Try.func9, Try.ntmps9
    go_wp2_with (go_at_call 15; refine HRD.out.mono ?_; (rintro r w2 ⟨rfl, hor⟩); have hl : ∃ A n c rest many tv ps la ln v, LR w w2 w.heap.size A n c rest many tv ps la ln v O M := (hor.elim (fun h => h.2) (fun h => absurd rfl h.1)); obtain ⟨A2, n2, c2, rest2, many2, tv2, ps2, la2, ln2, v2, hl2⟩ := hl; have k6 : w2.cell? ⟨w.heap.size, 6, none⟩ = some v2 := hl2.at_ 6; have HL2 := Lib.hid hl2; clear hl2 hor)
    go_ret2
    exact ReadPost.of_row HL2.out.low HL2.out.row
  · have t0 : (E == 0) = false := beq_eq_false_iff_ne.2 he
    have HNE := Lib.hid he
    clear he
    go_enter Try.func9, Try.ntmps9
    go_wp2_with (go_at_call 15; refine HRD.out.mono ?_; (rintro r w2 ⟨rfl, hor⟩); have HB2 := Lib.hid (hor.elim (fun h => absurd h.1 HNE.out) (fun h => h.2)); clear hor)
    go_ret2
    obtain ⟨e1, hb2⟩ := HB2.out
    have e2 : O = [] := e1
    subst e2
    exact ReadPost.of_bad _ hb2
end Go.Proofs.Ytpnnejedfccckaa
