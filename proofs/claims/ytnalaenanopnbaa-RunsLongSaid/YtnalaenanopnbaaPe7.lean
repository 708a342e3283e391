/- Chapter 7: the program's own Decode. -/
import Derived.Test.YtnalaenanopnbaaRd7
import Derived.Test.YtnalaenanopnbaaRe7
import Derived.Test.YtnalaenanopnbaaPq7
namespace Go.Proofs.Ytnalaenanopnbaa
open Go.RowKit
set_option linter.unusedVariables false
set_option maxRecDepth 100000

set_option maxHeartbeats 2000000 in
theorem pDecode (A : Option Addr) (n c : Nat) (most : Int) (zs : List Int) (w : World) (hb : Byt w w.heap.size A n c zs) (hn : n ≤ 100000) (m0 : -9223372036854775808 ≤ most) (m1 : most ≤ 9223372036854775807) (R : List Int × Int) (hR : rdR (max most 0).toNat zs 0 [] = R) :
    Calls Try.prog 8 #[.slice A n c, .int .i64 most] w (ReadPost w R) := by
  have HB := Lib.hid hb
  obtain ⟨M, hM⟩ : ∃ M : Nat, (max most 0).toNat = M := ⟨_, rfl⟩
  rw [hM] at hR
  have hM2 : max most 0 = (M : Int) := by omega
  have hM3 : (M : Int) ≤ 9223372036854775807 := by omega
  have hnew := RS.new w w.heap.size M A n c (Nat.le_refl _)
  have HRD := Lib.hid (readC w w.heap.size w.heap.size M (128 * n) n R (w.alloc (.cells #[.slice A n c, .slice none 0 0, .int .i64 M] 36))
    ⟨(Below.refl _ _).alloc (Nat.le_refl _) _, A, n, c, _, [], zs, Nat.le_refl _, hnew, fun W hW => hb.below hW (Nat.le_refl _), by simp, hR⟩ (by omega) hM3 (by omega))
  clear hb hM hR hnew hM3
  go_enter Try.func8, Try.ntmps8
  go_wp2_with (go_at_call 14; refine HRD.out.mono ?_; (rintro r w3 ⟨e, rfl, hb3, hp⟩); have HB3 := Lib.hid hb3; clear hb3; refine Or.elim hp (fun hp => ?_) (fun hp => ?_); all_goals (first | (obtain ⟨he, A5, n5, c5, v5, out, hs, h2⟩ := hp; subst he; have k1 := hs.c1; have HS := Lib.hid hs; have HR2 := Lib.hid h2; clear hs h2) | (obtain ⟨he, h2⟩ := hp; have hne : (e == 0) = false := beq_eq_false_iff_ne.2 he; have HR2 := Lib.hid h2; clear h2 he)))
  · go_ret2
    have h2 := HR2.out
    subst h2
    exact ReadPost.of_bad e HB3.out
  · go_ret2
    have h2 := HR2.out
    subst h2
    exact ReadPost.of_row HB3.out HS.out.row
end Go.Proofs.Ytnalaenanopnbaa
