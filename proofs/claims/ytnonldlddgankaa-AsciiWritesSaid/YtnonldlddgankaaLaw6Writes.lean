/- AsciiWrites: any bytes: their signs, of either kind. No condition on the input. -/
import Derived.Test.YtnonldlddgankaaLaw6Do
namespace Go.Proofs.Ytnonldlddgankaa
open Go.ChangeShapes Go.WideShapes Go.ChangeAt Go.RowKit Go.Deep
set_option linter.unusedVariables false
set_option maxRecDepth 100000

set_option maxHeartbeats 4000000 in
theorem writes_walk (A : Option Addr) (n c : Nat) (zs : List Int) (x : Int) (w : World) (hb : Byt w w.heap.size A n c zs) (hn : n ≤ 9223372036854775807) (m0 : -9223372036854775808 ≤ x) (m1 : x ≤ 9223372036854775807) :
    Calls Try.prog 5 #[.slice A n c, .int .i64 x] w fun e w' => e = .returned (.bool true) ∧ Below w.heap.size w w' := by
  have HAW := Lib.hid (awake_any w)
  by_cases hok : n ≤ 1000
  · have HB := Lib.hid (fun W (hW : Below w.heap.size w W) => (hb.below hW (Nat.le_refl _)).more hW.size)
    have hlen := hb.len
    have hni : ¬ (1000 : Int) < n := by omega
    have H1 := Lib.hid (fun W (hW : Byt W W.heap.size A n c zs) => pHex A n c zs W hW (by omega))
    have H2 := Lib.hid (fun W (hW : Byt W W.heap.size A n c zs) => refHex A n c zs W hW (by omega))
    have H3 := Lib.hid (fun W (hW : Byt W W.heap.size A n c zs) => pBase85 A n c zs W hW (by omega))
    have H4 := Lib.hid (fun W (hW : Byt W W.heap.size A n c zs) => refBase85 A n c zs W hW (by omega))
    have hl1 : (hexS zs).length ≤ 4000 := by unfold hexS; rw [List.length_append, hxB_len, hlen]; simp; omega
    have hl2 : (b85S zs).length ≤ 4000 := by have := (b85S_len zs).2; omega
    obtain ⟨X, hX⟩ : ∃ X, hexS zs = X := ⟨_, rfl⟩
    obtain ⟨Y, hY⟩ : ∃ Y, b85S zs = Y := ⟨_, rfl⟩
    rw [hX] at H1 H2 hl1
    rw [hY] at H3 H4 hl2
    have HW1 := Lib.hid (fun W => pwhite x W)
    have HW2 := Lib.hid (fun W => rwhite x W)
    have HD1 := Lib.hid (fun W => pdigit x W)
    have HD2 := Lib.hid (fun W => rdigit x W)
    obtain ⟨bw, hbw⟩ : ∃ b, whB x = b := ⟨_, rfl⟩
    obtain ⟨dx, hdx⟩ : ∃ d, dgZ x = d := ⟨_, rfl⟩
    rw [hbw] at HW1 HW2
    rw [hdx] at HD1 HD2
    clear hb hX hY hlen hok hbw hdx
    go_enter Try.func5, Try.ntmps5
    go_wp2_with (first
      | (go_at_call 8; refine HAW.out.mono ?_; (rintro r w0 ⟨rfl, hb0⟩); have HB0 := Lib.hid hb0; clear hb0)
      | (go_at_call 12; refine (H1.out _ (HB.out _ HB0.out)).mono ?_; (rintro r w1 ⟨v1, rfl, hm1, hb1⟩); have HM1 := Lib.hid hm1; have HB1 := Lib.hid (HB0.out.trans (hb1.mono HB0.out.size)); clear hm1 hb1)
      | (go_at_call 18; refine (H2.out _ (HB.out _ HB1.out)).mono ?_; (rintro r w2 ⟨A2, c2, rfl, hy2, hb2⟩); obtain ⟨A1, c1, rfl, hy1⟩ := (HM1.out.kept hb2).byt; have HE := Lib.hid (refSame_yes A1 A2 _ c1 _ c2 _ _ _ hy1 hy2 (by omega)); have HB2 := Lib.hid (HB1.out.trans (hb2.mono HB1.out.size)); clear hb2 hy1 hy2)
      | (go_at_call 11; with_reducible refine HE.out.mono ?_; (rintro r w3 ⟨rfl, q3, rfl⟩); have HB3 := Lib.hid (below_drewN HB2.out q3))
      | (go_at_call 13; refine (H3.out _ (HB.out _ HB3.out)).mono ?_; (rintro r w4 ⟨v4, rfl, hm4, hb4⟩); have HM4 := Lib.hid hm4; have HB4 := Lib.hid (HB3.out.trans (hb4.mono HB3.out.size)); clear hm4 hb4)
      | (go_at_call 19; refine (H4.out _ (HB.out _ HB4.out)).mono ?_; (rintro r w5 ⟨v5, rfl, hm5, hb5⟩); obtain ⟨A4, c4, rfl, hy4⟩ := (HM4.out.kept hb5).byt; obtain ⟨A5, c5, rfl, hy5⟩ := hm5.byt; have HG := Lib.hid (refSame_yes A4 A5 _ c4 _ c5 _ _ _ hy4 hy5 (by omega)); have HB5 := Lib.hid (HB4.out.trans (hb5.mono HB4.out.size)); clear hm5 hb5 hy4 hy5)
      | (go_at_call 11; with_reducible refine HG.out.mono ?_; (rintro r w6 ⟨rfl, q6, rfl⟩); have HB6 := Lib.hid (below_drewN HB5.out q6))
      | (go_at_call 14; refine (HW1.out _).mono ?_; (rintro r w7 ⟨rfl, rfl⟩))
      | (go_at_call 20; refine (HW2.out _).mono ?_; (rintro r w7 ⟨rfl, rfl⟩))
      | (go_at_call 15; refine (HD1.out _).mono ?_; (rintro r w7 ⟨rfl, rfl⟩))
      | (go_at_call 21; refine (HD2.out _).mono ?_; (rintro r w7 ⟨rfl, rfl⟩)))
    go_ret
    exact ⟨rfl, HB6.out⟩
  · have hni : (1000 : Int) < n := by omega
    go_enter Try.func5, Try.ntmps5
    go_wp2_with (go_at_call 8; refine HAW.out.mono ?_; (rintro r w0 ⟨rfl, hb0⟩); have HB0 := Lib.hid hb0; clear hb0)
    go_ret
    exact ⟨rfl, HB0.out⟩
set_option maxRecDepth 100000 in
theorem writes_lifted (os : Os) (started : os.Started) (H : Type) (enc : TypeId × Value → H) :
    ReturnsInHanded {} Try.checked os 5 .any (Rows.asciiWritesSpec.pre6 enc Try.prog Try.f5 Rows.asciiWritesRow.domain false) (Rows.asciiWritesSpec.post enc Try.prog Try.f5 false true false false) := by
  refine returnsInHanded_of_change (C := Try.checked) own started (by kernel_rfl) Try.func5
    (ChangeSpec.witness6 (enc := enc) (C := Try.checked) false ⟨#[], #[.slice none 0 0, .int .i64 0], []⟩ 8 (by kernel_rfl) (by kernel_rfl) (by kernel_rfl) (by kernel_rfl)) ?_
  intro W base args ds gs before hval0 hW hcnd _
  have hval : ∀ (j : Nat) t v, Try.f5.params[j]? = some t → args[j]? = some v → Value.okWide Try.prog W .any base t v := hval0
  have hW' := hW
  obtain ⟨p, q, hA0, hV, rfl, hfz, hnd⟩ := hW
  have hA : DataW.TrodAll enc Try.prog W 0 (fun _ => true) true Try.f5.params.toList args.toList ds p := hA0
  rw [Try.params5] at hA hval
  obtain ⟨v0, vs0, d0, ds0, p0, q0, hargs, rfl, rfl, h0, r0⟩ := trodAll_cons hA
  obtain ⟨v1, vs1, d1, ds1, p1, q1, rfl, rfl, rfl, h1, r1⟩ := trodAll_cons r0
  obtain ⟨rfl, rfl, rfl⟩ := trodAll_nil r1
  obtain rfl : args = #[v0, v1] := by cases args; simp_all
  obtain ⟨rfl, rfl⟩ := trodVars_none hV
  obtain ⟨a0, len0, cap0, rfl⟩ := okWide_slice Try.underlying23 (hval 0 23 v0 rfl rfl)
  obtain ⟨zs0, hz0, hcm0⟩ := open_bytes h0 (fun _ => rfl)
  have lt0 : ∀ x ∈ p0, x.block < W.heap.size := by obtain ⟨m, hm⟩ := h0; exact DataW.trod_lt m _ _ _ hm
  obtain ⟨x1, rfl⟩ := okWide_int Try.underlying3 (hval 1 3 v1 rfl rfl)
  obtain ⟨lo1, hi1⟩ := open_intk Try.underlying3 h1
  rw [show IntKind.i64.min = -9223372036854775808 by decide] at lo1
  rw [show IntKind.i64.max = 9223372036854775807 by decide] at hi1
  have lt1 : ∀ x ∈ p1, x.block < W.heap.size := by obtain ⟨m, hm⟩ := h1; exact DataW.trod_lt m _ _ _ hm
  have hmx : maxLen = 9223372036854775807 := by decide
  clear hA0 hval0
  refine (writes_walk a0 len0 cap0 zs0 x1 W hz0 (by have := hz0.cap; omega) lo1 hi1).mono fun e W' ⟨he, bel⟩ => ?_
  subst he
  exact ⟨_, rfl, _, _, _, [], _, [], hW', trodAll_mk1 (shut_bool Try.underlying4 _), (trodAll_cons_mk (Below.trod laidOut (by kernel_rfl) (of_decide_eq_true (by kernel_rfl)) h0 bel lt0) (trodAll_cons_mk (Below.trod laidOut (by kernel_rfl) (of_decide_eq_true (by kernel_rfl)) h1 bel lt1) trodAll_mk0)), rfl, bel.frame _, fun h => by cases h⟩

/-- AsciiWrites: it answers true. -/
theorem writes_holds : Rows.AsciiWritesSaid :=
  OpenClaim.holds_of_wide 5 Try.f5 rfl rfl rfl rfl rfl rfl rfl ⟨rfl, rfl, rfl, rfl, rfl⟩ rfl rfl rfl rfl rfl (by kernel_rfl) Try.func5 (by kernel_rfl)
    (of_decide_eq_true (by kernel_rfl)) (by unfold Func.isWrapper; first | (rw [if_pos (by decide +kernel)]; kernel_rfl) | (rw [if_neg (by decide +kernel)]; exact ⟨rfl, rfl⟩))
    (fun os started H enc _ => writes_lifted os started H enc)
#print axioms writes_holds

end Go.Proofs.Ytnonldlddgankaa
