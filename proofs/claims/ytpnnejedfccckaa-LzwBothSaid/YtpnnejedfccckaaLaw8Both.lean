/- LzwBoth: any bytes, read or written within any bound, as the document's own answers say. No condition on the input. -/
import Derived.Test.YtpnnejedfccckaaLaw8Do
namespace Go.Proofs.Ytpnnejedfccckaa
open Go.ChangeShapes Go.WideShapes Go.ChangeAt Go.RowKit Go.Deep
set_option linter.unusedVariables false
set_option maxRecDepth 100000

set_option maxHeartbeats 4000000 in
theorem both_walk (A : Option Addr) (n c : Nat) (zs : List Int) (most : Int) (w : World) (hb : Byt w w.heap.size A n c zs) (hn : n ≤ 9223372036854775807) (m0 : -9223372036854775808 ≤ most) (m1 : most ≤ 9223372036854775807) :
    Calls Try.prog 4 #[.slice A n c, .int .i64 most] w fun e w' => e = .returned (.bool true) ∧ Below w.heap.size w w' := by
  have HAW := Lib.hid (awake_any w)
  by_cases hok : n ≤ 800
  · have HB := Lib.hid (fun W (hW : Below w.heap.size w W) => (hb.below hW (Nat.le_refl _)).more hW.size)
    have hlen := hb.len
    have hni : ¬ (800 : Int) < n := by omega
    have hl1 := lzDec_len (max most 0).toNat zs
    have hl2 : (lzEnc zs).length ≤ (24 * zs.length + 28) / 8 := by have := lzBits_len zs; rw [lzEnc_len]; omega
    obtain ⟨R, hR⟩ : ∃ R, lzDec (max most 0).toNat zs = R := ⟨_, rfl⟩
    have H1 := Lib.hid (fun W (hW : Byt W W.heap.size A n c zs) => pDecode A n c most zs W hW (by omega) m0 m1 R hR)
    have H2 := Lib.hid (fun W (hW : Byt W W.heap.size A n c zs) => refLzD A n c most zs W hW (by omega) m0 m1 R hR)
    have H3 := Lib.hid (fun W (hW : Byt W W.heap.size A n c zs) => pEncode A n c zs W hW (by omega))
    have H4 := Lib.hid (fun W (hW : Byt W W.heap.size A n c zs) => refLzE A n c zs W hW (by omega))
    rw [hR] at hl1
    obtain ⟨o1, e1⟩ := R
    obtain ⟨E, hE⟩ : ∃ E, lzEnc zs = E := ⟨_, rfl⟩
    rw [hE] at H3 H4 hl2
    dsimp only at hl1
    rw [hlen] at hl1 hl2
    have ho1 : o1.length ≤ 100000000 := by omega
    have hoE : E.length ≤ 200000 := by omega
    clear hb hR hl1 hl2 hlen hok hE
    go_enter Try.func4, Try.ntmps4
    go_wp2_with (first
      | (go_at_call 8; refine HAW.out.mono ?_; (rintro r w0 ⟨rfl, hb0⟩); have HB0 := Lib.hid hb0; clear hb0)
      | (go_at_call 9; refine (H1.out _ (HB.out _ HB0.out)).mono ?_; (rintro r w1 ⟨A1, c1, rfl, hy1, hb1, _⟩); dsimp only at hy1; have HY1 := Lib.hid hy1; have HB1 := Lib.hid (HB0.out.trans (hb1.mono HB0.out.size)); clear hy1 hb1)
      | (go_at_call 12; refine (H2.out _ (HB.out _ HB1.out)).mono ?_; (rintro r w2 ⟨A2, c2, rfl, hy2, hb2, _⟩); dsimp only at hy2; have HE1 := Lib.hid (refSame_yes A1 A2 o1.length c1 _ c2 _ o1 w2 ((HY1.out.below hb2 (Nat.le_refl _)).more hb2.size) hy2 (by omega)); have HB2 := Lib.hid (HB1.out.trans (hb2.mono HB1.out.size)); clear hy2 hb2)
      | (go_at_call 10; with_reducible refine HE1.out.mono ?_; (rintro r w5 ⟨rfl, q5, rfl⟩); have HB3 := Lib.hid (below_drewN HB2.out q5))
      | (go_at_call 11; refine (H3.out _ (HB.out _ HB3.out)).mono ?_; (rintro r w6 ⟨v6, rfl, hm6, hb6⟩); obtain ⟨A6, c6, rfl, hy6⟩ := hm6.byt; have HY6 := Lib.hid hy6; have HB6 := Lib.hid (HB3.out.trans (hb6.mono HB3.out.size)); clear hy6 hb6 hm6)
      | (go_at_call 13; refine (H4.out _ (HB.out _ HB6.out)).mono ?_; (rintro r w7 ⟨v7, rfl, hm7, hb7⟩); obtain ⟨A7, c7, rfl, hy7⟩ := hm7.byt; have HE2 := Lib.hid (refSame_yes A6 A7 E.length c6 _ c7 _ E w7 ((HY6.out.below hb7 (Nat.le_refl _)).more hb7.size) hy7 (by omega)); have HB7 := Lib.hid (HB6.out.trans (hb7.mono HB6.out.size)); clear hy7 hb7 hm7)
      | (go_at_call 10; with_reducible refine HE2.out.mono ?_; (rintro r w8 ⟨rfl, q8, rfl⟩)))
    go_ret
    exact ⟨rfl, below_drewN HB7.out _⟩
  · have hni : (800 : Int) < n := by omega
    go_enter Try.func4, Try.ntmps4
    go_wp2_with (go_at_call 8; refine HAW.out.mono ?_; (rintro r w0 ⟨rfl, hb0⟩); have HB0 := Lib.hid hb0; clear hb0)
    go_ret
    exact ⟨rfl, HB0.out⟩
set_option maxRecDepth 100000 in
theorem both_lifted (os : Os) (started : os.Started) (H : Type) (enc : TypeId × Value → H) :
    ReturnsInHanded {} Try.checked os 4 .any (Rows.lzwBothSpec.pre6 enc Try.prog Try.f4 Rows.lzwBothRow.domain false) (Rows.lzwBothSpec.post enc Try.prog Try.f4 false true false false) := by
  refine returnsInHanded_of_change (C := Try.checked) own started (by kernel_rfl) Try.func4
    (ChangeSpec.witness6 (enc := enc) (C := Try.checked) false ⟨#[], #[.slice none 0 0, .int .i64 0], []⟩ 8 (by kernel_rfl) (by kernel_rfl) (by kernel_rfl) (by kernel_rfl)) ?_
  intro W base args ds gs before hval0 hW hcnd _
  have hval : ∀ (j : Nat) t v, Try.f4.params[j]? = some t → args[j]? = some v → Value.okWide Try.prog W .any base t v := hval0
  have hW' := hW
  obtain ⟨p, q, hA0, hV, rfl, hfz, hnd⟩ := hW
  have hA : DataW.TrodAll enc Try.prog W 0 (fun _ => true) true Try.f4.params.toList args.toList ds p := hA0
  rw [Try.params4] at hA hval
  obtain ⟨v0, vs0, d0, ds0, p0, q0, hargs, rfl, rfl, h0, r0⟩ := trodAll_cons hA
  obtain ⟨v1, vs1, d1, ds1, p1, q1, rfl, rfl, rfl, h1, r1⟩ := trodAll_cons r0
  obtain ⟨rfl, rfl, rfl⟩ := trodAll_nil r1
  obtain rfl : args = #[v0, v1] := by cases args; simp_all
  obtain ⟨rfl, rfl⟩ := trodVars_none hV
  obtain ⟨a0, len0, cap0, rfl⟩ := okWide_slice Try.underlying23 (hval 0 23 v0 rfl rfl)
  obtain ⟨zs0, hz0, hcm0⟩ := open_bytes h0 (fun _ => rfl)
  have lt0 : ∀ x ∈ p0, x.block < W.heap.size := by obtain ⟨m, hm⟩ := h0; exact DataW.trod_lt m _ _ _ hm
  obtain ⟨x1, rfl⟩ := okWide_int Try.underlying3 (hval 1 3 v1 rfl rfl)
  obtain ⟨lo1, hi1⟩ := open_intk Try.underlying3 h1
  rw [show IntKind.i64.min = -9223372036854775808 by decide] at lo1
  rw [show IntKind.i64.max = 9223372036854775807 by decide] at hi1
  have lt1 : ∀ x ∈ p1, x.block < W.heap.size := by obtain ⟨m, hm⟩ := h1; exact DataW.trod_lt m _ _ _ hm
  have hmx : maxLen = 9223372036854775807 := by decide
  clear hA0 hval0
  refine (both_walk a0 len0 cap0 zs0 x1 W hz0 (by have := hz0.cap; omega) lo1 hi1).mono fun e W' ⟨he, bel⟩ => ?_
  subst he
  exact ⟨_, rfl, _, _, _, [], _, [], hW', trodAll_mk1 (shut_bool Try.underlying4 _), (trodAll_cons_mk (Below.trod laidOut (by kernel_rfl) (of_decide_eq_true (by kernel_rfl)) h0 bel lt0) (trodAll_cons_mk (Below.trod laidOut (by kernel_rfl) (of_decide_eq_true (by kernel_rfl)) h1 bel lt1) trodAll_mk0)), rfl, bel.frame _, fun h => by cases h⟩

/-- LzwBoth: it answers true. -/
theorem both_holds : Rows.LzwBothSaid :=
  OpenClaim.holds_of_wide 4 Try.f4 rfl rfl rfl rfl rfl rfl rfl ⟨rfl, rfl, rfl, rfl, rfl⟩ rfl rfl rfl rfl rfl (by kernel_rfl) Try.func4 (by kernel_rfl)
    (of_decide_eq_true (by kernel_rfl)) (by unfold Func.isWrapper; first | (rw [if_pos (by decide +kernel)]; kernel_rfl) | (rw [if_neg (by decide +kernel)]; exact ⟨rfl, rfl⟩))
    (fun os started H enc _ => both_lifted os started H enc)
#print axioms both_holds

end Go.Proofs.Ytpnnejedfccckaa
