/- PredictBoth: any bytes of any shape, undone or done, as the document's own answers say. No condition on the input. -/
import Derived.Test.YtagkjndiifcekaaSh9
import Derived.Deep.RegionHeld3
namespace Go.Proofs.Ytagkjndiifcekaa
open Go.ChangeShapes Go.WideShapes Go.ChangeAt Go.RowKit Go.Deep
set_option linter.unusedVariables false
set_option maxRecDepth 100000

set_option maxHeartbeats 8000000 in
theorem both_walk (P C K : Int) (A : Option Addr) (n c : Nat) (zs : List Int) (w : World) (hb : Byt w w.heap.size A n c zs) (hn : n ≤ 9223372036854775807) :
    Calls Try.prog 4 #[shV P C K, .slice A n c] w fun e w' => e = .returned (.bool true) ∧ Below w.heap.size w w' := by
  have HLEN := Lib.hid hb.len
  have HB := Lib.hid (fun W (hW : Below w.heap.size w W) => (hb.below hW (Nat.le_refl _)).more hW.size)
  have HW1 := Lib.hid ((Below.refl w.heap.size w).alloc (Nat.le_refl _) (.cells #[.int .i64 P, .int .i64 C, .int .i64 K] 30))
  have HSH := Lib.hid (ShB.new w P C K)
  obtain ⟨W1, hW1⟩ : ∃ W1, w.alloc (.cells #[.int .i64 P, .int .i64 C, .int .i64 K] 30) = W1 := ⟨_, rfl⟩
  have hsz : W1.heap.size = w.heap.size + 1 := by rw [← hW1]; simp
  rw [hW1] at HW1 HSH
  have HSZ := Lib.hid hsz
  have HAW := Lib.hid (awake_any W1)
  clear hb hsz
  have HSP : Hid (∀ W, Calls Try.prog 13 #[shV P C K] W fun e w' => e = .returned (shV P C K) ∧ Below W.heap.size W w') := Lib.hid (fun W => shapeC P C K W)
  have HM1 := Lib.hid (fun W => pMay P C K W)
  have HM2 := Lib.hid (fun W => mayC P C K W)
  obtain ⟨mb, hmb⟩ : ∃ mb, mayZ P C K = mb := ⟨_, rfl⟩
  rw [hmb] at HM1 HM2
  clear hmb
  by_cases hok : n ≤ 1000
  · have hni : ¬ (1000 : Int) < n := by omega
    obtain ⟨R, hR⟩ : ∃ R, undZ P C K zs = R := ⟨_, rfl⟩
    obtain ⟨T, hT⟩ : ∃ T, doZ P C K zs = T := ⟨_, rfl⟩
    have H1 := Lib.hid (fun W (hW : Byt W W.heap.size A n c zs) => pDecode P C K A n c zs W hW (by omega) R hR)
    have H2 := Lib.hid (fun W (hW : Byt W W.heap.size A n c zs) => refUndo P C K A n c zs W hW (by omega) R hR)
    have H3 := Lib.hid (fun W (hW : Byt W W.heap.size A n c zs) => pEncode P C K A n c zs W hW (by omega) T hT)
    have H4 := Lib.hid (fun W (hW : Byt W W.heap.size A n c zs) => refDo P C K A n c zs W hW (by omega) T hT)
    have hl1 := undZ_len P C K zs
    have hl2 := doZ_len P C K zs
    rw [hR] at hl1
    rw [hT] at hl2
    obtain ⟨o1, e1⟩ := R
    obtain ⟨o2, e2⟩ := T
    dsimp only at hl1 hl2
    have HO1 : Hid (o1.length ≤ 100000000) := Lib.hid (by rw [HLEN.out] at hl1; omega)
    have HO2 : Hid (o2.length ≤ 100000000) := Lib.hid (by rw [HLEN.out] at hl2; omega)
    clear hR hT hok hl1 hl2
    go_enter Try.func4, Try.ntmps4
    go_upto_region 9 with (first
      | (go_at_call 8; refine HAW.out.mono ?_; (rintro r w0 ⟨rfl, hb0⟩); have HC := Lib.hid hb0; have hs := HSH.out.below hb0 (by have := HSZ.out; omega); have k0 := hs.c0; have k1 := hs.c1; have k2 := hs.c2; clear hb0 hs)
      | (go_at_call 13; refine (HSP.out _).mono ?_; (rintro r w0 ⟨rfl, hb0⟩); have HB2 := Lib.hid (HB2.out.trans (hb0.mono HB2.out.size)); have HC := Lib.hid (HC.out.trans (hb0.mono HC.out.size)); have hs := HSH.out.below HC.out (by have := HSZ.out; omega); have k0 := hs.c0; have k1 := hs.c1; have k2 := hs.c2; clear hb0 hs)
      | (go_at_call 13; refine (HSP.out _).mono ?_; (rintro r w0 ⟨rfl, hb0⟩); have HC := Lib.hid (HC.out.trans (hb0.mono HC.out.size)); have hs := HSH.out.below HC.out (by have := HSZ.out; omega); have k0 := hs.c0; have k1 := hs.c1; have k2 := hs.c2; clear hb0 hs)
      | (go_at_call 9; refine (H1.out _ (HB.out _ (HW1.out.trans (HC.out.mono HW1.out.size)))).mono ?_; (rintro r w1 ⟨A1, c1, rfl, hy1, hb1⟩); dsimp only at hy1; have HY1 := Lib.hid (fun W (hW : Below w1.heap.size w1 W) => (hy1.below hW (Nat.le_refl _)).more hW.size); have HC := Lib.hid (HC.out.trans (hb1.mono HC.out.size)); have hs := HSH.out.below HC.out (by have := HSZ.out; omega); have k0 := hs.c0; have k1 := hs.c1; have k2 := hs.c2; clear hy1 hb1 hs)
      | (go_at_call 14; refine (H2.out _ (HB.out _ (HW1.out.trans (HC.out.mono HW1.out.size)))).mono ?_; (rintro r w2 ⟨A2, c2, rfl, hy2, hb2⟩); dsimp only at hy2; have HE1 := Lib.hid (fun W (hW : Below w2.heap.size w2 W) => refSame_yes A1 A2 o1.length c1 _ c2 _ o1 W (HY1.out W (hb2.trans (hW.mono hb2.size))) (hy2.below hW (Nat.le_refl _)) (by have := HO1.out; omega)); have HC := Lib.hid (HC.out.trans (hb2.mono HC.out.size)); have hs := HSH.out.below HC.out (by have := HSZ.out; omega); have k0 := hs.c0; have k1 := hs.c1; have k2 := hs.c2; clear hy2 hs; have HB2 := Lib.hid (Below.refl w2.heap.size w2); clear hb2)
      | (go_at_call 10; refine (H3.out _ (HB.out _ (HW1.out.trans (HC.out.mono HW1.out.size)))).mono ?_; (rintro r w6 ⟨A6, c6, rfl, hy6, hb6⟩); dsimp only at hy6; have HY6 := Lib.hid (fun W (hW : Below w6.heap.size w6 W) => (hy6.below hW (Nat.le_refl _)).more hW.size); have HB2 := Lib.hid (HB2.out.trans (hb6.mono HB2.out.size)); have HC := Lib.hid (HC.out.trans (hb6.mono HC.out.size)); have hs := HSH.out.below HC.out (by have := HSZ.out; omega); have k0 := hs.c0; have k1 := hs.c1; have k2 := hs.c2; clear hy6 hb6 hs)
      | (go_at_call 15; refine (H4.out _ (HB.out _ (HW1.out.trans (HC.out.mono HW1.out.size)))).mono ?_; (rintro r w7 ⟨A7, c7, rfl, hy7, hb7⟩); dsimp only at hy7; have HB2 := Lib.hid (HB2.out.trans (hb7.mono HB2.out.size)); have HE1 := Lib.hid (fun W (hW : Below w7.heap.size w7 W) => HE1.out W (HB2.out.trans (hW.mono HB2.out.size))); have HE2 := Lib.hid (fun W (hW : Below w7.heap.size w7 W) => refSame_yes A6 A7 o2.length c6 _ c7 _ o2 W (HY6.out W (hb7.trans (hW.mono hb7.size))) (hy7.below hW (Nat.le_refl _)) (by have := HO2.out; omega)); have HC := Lib.hid (HC.out.trans (hb7.mono HC.out.size)); have hs := HSH.out.below HC.out (by have := HSZ.out; omega); have k0 := hs.c0; have k1 := hs.c1; have k2 := hs.c2; have HSH7 := Lib.hid (HSH.out.below HC.out (by have := HSZ.out; omega)); have HDk : Hid (∀ k, Below w7.heap.size w7 (w7.drewN k)) := Lib.hid (fun k => below_drewN (Below.refl _ _) k); have HD := Lib.hid (show Below w7.heap.size w7 w7.drew from (below_drewN (Below.refl _ _) 1)); clear hy7 hb7 hs))
    go_region_held3 (fun w' => w'.cell? ⟨w.heap.size, 0, none⟩ = some (.int .i64 P) ∧ w'.cell? ⟨w.heap.size, 1, none⟩ = some (.int .i64 C) ∧ w'.cell? ⟨w.heap.size, 2, none⟩ = some (.int .i64 K)) (first | exact ⟨k0, k1, k2⟩ | go_keep | assumption)
     (first
      | (go_simp; go_at_call 11; (with_reducible refine (HE1.out _ ?hx).mono ?_); (case hx => first | exact HDk.out _ | exact HD.out); (rintro r w8 ⟨rfl, q8, rfl⟩); have HD := Lib.hid (below_drewN HD.out q8); have hs := HSH7.out.below HD.out HSH7.out.lt; have k0 := hs.c0; have k1 := hs.c1; have k2 := hs.c2; clear hs)
      | (go_simp; go_at_call 11; (with_reducible refine (HE2.out _ ?hx).mono ?_); (case hx => first | exact HDk.out _ | exact HD.out); (rintro r w8 ⟨rfl, q8, rfl⟩); have HD := Lib.hid (below_drewN HD.out q8); have hs := HSH7.out.below HD.out HSH7.out.lt; have k0 := hs.c0; have k1 := hs.c1; have k2 := hs.c2; clear hs)
      | (go_simp; go_at_call 13; refine (HSP.out _).mono ?_; (rintro r w8 ⟨rfl, hb8⟩); (first | (have HD := Lib.hid (HD.out.trans (hb8.mono HD.out.size))) | (have HD := Lib.hid ((HDk.out _).trans (hb8.mono (HDk.out _).size)))); have hs := HSH7.out.below HD.out HSH7.out.lt; have k0 := hs.c0; have k1 := hs.c1; have k2 := hs.c2; clear hb8 hs)
      | (go_simp; go_at_call 12; refine (HM1.out _).mono ?_; (rintro r w8 ⟨rfl, hb8⟩); (first | (have HD := Lib.hid (HD.out.trans (hb8.mono HD.out.size))) | (have HD := Lib.hid ((HDk.out _).trans (hb8.mono (HDk.out _).size)))); have hs := HSH7.out.below HD.out HSH7.out.lt; have k0 := hs.c0; have k1 := hs.c1; have k2 := hs.c2; clear hb8 hs)
      | (go_simp; go_at_call 16; refine (HM2.out _).mono ?_; (rintro r w8 ⟨rfl, hb8⟩); (first | (have HD := Lib.hid (HD.out.trans (hb8.mono HD.out.size))) | (have HD := Lib.hid ((HDk.out _).trans (hb8.mono (HDk.out _).size)))); have hs := HSH7.out.below HD.out HSH7.out.lt; have k0 := hs.c0; have k1 := hs.c1; have k2 := hs.c2; clear hb8 hs))
    all_goals
      go_wp2_with fail
      go_ret
      exact ⟨rfl, HW1.out.trans ((HC.out.trans (HD.out.mono HC.out.size)).mono HW1.out.size)⟩
  · have hni : (1000 : Int) < n := by omega
    go_enter Try.func4, Try.ntmps4
    go_wp2_with (go_at_call 8; refine HAW.out.mono ?_; (rintro r w0 ⟨rfl, hb0⟩); have HB0 := Lib.hid (HW1.out.trans (hb0.mono HW1.out.size)); clear hb0)
    go_ret
    exact ⟨rfl, HB0.out⟩
set_option maxRecDepth 100000 in
theorem both_lifted (os : Os) (started : os.Started) (H : Type) (enc : TypeId × Value → H) :
    ReturnsInHanded {} Try.checked os 4 .any (Rows.predictBothSpec.pre6 enc Try.prog Try.f4 Rows.predictBothRow.domain false) (Rows.predictBothSpec.post enc Try.prog Try.f4 false true false false) := by
  refine returnsInHanded_of_change (C := Try.checked) own started (by kernel_rfl) Try.func4
    (ChangeSpec.witness6 (enc := enc) (C := Try.checked) false ⟨#[], #[.agg #[.int .i64 0, .int .i64 0, .int .i64 0], .slice none 0 0], []⟩ 8 (by kernel_rfl) (by kernel_rfl) (by kernel_rfl) (by kernel_rfl)) ?_
  intro W base args ds gs before hval0 hW hcnd _
  have hval : ∀ (j : Nat) t v, Try.f4.params[j]? = some t → args[j]? = some v → Value.okWide Try.prog W .any base t v := hval0
  have hW' := hW
  obtain ⟨p, q, hA0, hV, rfl, hfz, hnd⟩ := hW
  have hA : DataW.TrodAll enc Try.prog W 0 (fun _ => true) true Try.f4.params.toList args.toList ds p := hA0
  rw [Try.params4] at hA hval
  obtain ⟨v0, vs0, d0, ds0, p0, q0, hargs, rfl, rfl, h0, r0⟩ := trodAll_cons hA
  obtain ⟨v1, vs1, d1, ds1, p1, q1, rfl, rfl, rfl, h1, r1⟩ := trodAll_cons r0
  obtain ⟨rfl, rfl, rfl⟩ := trodAll_nil r1
  obtain rfl : args = #[v0, v1] := by cases args; simp_all
  obtain ⟨rfl, rfl⟩ := trodVars_none hV
  obtain ⟨cs0, rfl, hcs0⟩ := okWide_struct Try.underlying30 (hval 0 30 v0 rfl rfl)
  obtain ⟨P, C, K, rfl⟩ := open_shape h0 hcs0
  have lt0 : ∀ x ∈ p0, x.block < W.heap.size := by obtain ⟨m, hm⟩ := h0; exact DataW.trod_lt m _ _ _ hm
  obtain ⟨a1, len1, cap1, rfl⟩ := okWide_slice Try.underlying23 (hval 1 23 v1 rfl rfl)
  obtain ⟨zs1, hz1, hcm1⟩ := open_bytes h1 (fun _ => rfl)
  have lt1 : ∀ x ∈ p1, x.block < W.heap.size := by obtain ⟨m, hm⟩ := h1; exact DataW.trod_lt m _ _ _ hm
  have hmx : maxLen = 9223372036854775807 := by decide
  clear hA0 hval0
  refine (both_walk P C K a1 len1 cap1 zs1 W hz1 (by have := hz1.cap; omega)).mono fun e W' ⟨he, bel⟩ => ?_
  subst he
  exact ⟨_, rfl, _, _, _, [], _, [], hW', trodAll_mk1 (shut_bool Try.underlying4 _), (trodAll_cons_mk (Below.trod laidOut (by kernel_rfl) (of_decide_eq_true (by kernel_rfl)) h0 bel lt0) (trodAll_cons_mk (Below.trod laidOut (by kernel_rfl) (of_decide_eq_true (by kernel_rfl)) h1 bel lt1) trodAll_mk0)), rfl, bel.frame _, fun h => by cases h⟩

/-- PredictBoth: it answers true. -/
theorem both_holds : Rows.PredictBothSaid :=
  OpenClaim.holds_of_wide 4 Try.f4 rfl rfl rfl rfl rfl rfl rfl ⟨rfl, rfl, rfl, rfl, rfl⟩ rfl rfl rfl rfl rfl (by kernel_rfl) Try.func4 (by kernel_rfl)
    (of_decide_eq_true (by kernel_rfl)) (by unfold Func.isWrapper; first | (rw [if_pos (by decide +kernel)]; kernel_rfl) | (rw [if_neg (by decide +kernel)]; exact ⟨rfl, rfl⟩))
    (fun os started H enc _ => both_lifted os started H enc)
#print axioms both_holds

end Go.Proofs.Ytagkjndiifcekaa
