/- InflateZlib: any bytes as a wrapped stream: what comes, of how many bytes, or what is wrong first, within any bound. No condition on the input. -/
import Derived.Test.YtgglgpgieeibnaaDoorLaw4Do
import Derived.Test.YtgglgpgieeibnaaDoorPZl
namespace Go.Proofs.YtgglgpgieeibnaaDoor
open Go.ChangeShapes Go.WideShapes Go.ChangeAt Go.RowKit Go.Deep
set_option linter.unusedVariables false
set_option maxRecDepth 100000

set_option maxRecDepth 100000 in
set_option maxHeartbeats 2000000 in
theorem izlib_walk (A : Option Addr) (n c : Nat) (zs : List Int) (m : Int) (w : World) (ho : Ord w) (hb : Byt w w.heap.size A n c zs) (hn : n ≤ 9223372036854775807) (m0 : -9223372036854775808 ≤ m) (m1 : m ≤ 9223372036854775807) :
    Calls Tryd.prog 6 #[.slice A n c, .int .i64 m] w fun e w' => e = .returned (.bool true) ∧ Below w.heap.size w w' := by
  have HAW := Lib.hid (awake_any w ho)
  have HO := Lib.hid (fun W (hW : Below w.heap.size w W) => ho.below hW (Nat.le_refl _))
  have HB := Lib.hid hb
  clear hb
  by_cases hbig : n ≤ 1500
  · by_cases hmb : m ≤ 1048576
    · obtain ⟨M, hM⟩ : ∃ M : Nat, max m 0 = M := ⟨(max m 0).toNat, by omega⟩
      have hMb : M ≤ 1048576 := by omega
      have HM := Lib.hid hM
      obtain ⟨x, hx⟩ : ∃ x, unzS zs M = x := ⟨_, rfl⟩
      have HI := Lib.hid (fun W (h : Byt W W.heap.size A n c zs) (hO : Ord W) => hx ▸ inZlib A n c M m zs W h hO (by omega) (by omega) HM.out m0)
      have HR := Lib.hid (fun W (h : Byt W W.heap.size A n c zs) => hx ▸ refUnz A n c M m zs W h (by omega) (by omega) HM.out m0)
      clear hM hx
      go_enter Tryd.func6, Tryd.ntmps6
      go_wp2_with (first
        | (go_at_call 10; refine HAW.out.mono ?_; rintro e w1 ⟨rfl, hb1⟩; have HB1 := Lib.hid hb1; have HY1 := Lib.hid ((HB.out.below hb1 (Nat.le_refl _)).more hb1.size); clear hb1)
        | (go_at_call 12; refine (HI.out _ HY1.out (HO.out _ HB1.out)).mono ?_; rintro e w2 ⟨A2, c2, rfl, hy2, hl2, hb2⟩; have HX2 := Lib.hid hy2; have HL2 := Lib.hid hl2; have HC2 := Lib.hid (HB1.out.trans (hb2.mono HB1.out.size)); have HY2 := Lib.hid ((HB.out.below HC2.out (Nat.le_refl _)).more HC2.out.size); clear hy2 hl2 hb2)
        | (go_at_call 23; refine (HR.out _ HY2.out).mono ?_; rintro e w3 ⟨A3, c3, rfl, hy3, hl3, hb3⟩; have HX3 := Lib.hid hy3; have HX23 := Lib.hid (HX2.out.below hb3 (Nat.le_refl _)); have HC3 := Lib.hid (HC2.out.trans (hb3.mono HC2.out.size)); clear hy3 hl3 hb3)
        | (go_at_call 22; refine (refSame_yes A2 A3 _ c2 _ c3 _ _ _ HX23.out HX3.out HL2.out).mono ?_; rintro e w4 ⟨rfl, q4, rfl⟩; (try dsimp only)))
      go_ret
      exact ⟨by simp, below_drewN HC3.out _⟩
    · go_enter Tryd.func6, Tryd.ntmps6
      go_wp2_with (go_at_call 10; refine HAW.out.mono ?_; rintro e w1 ⟨rfl, hb1⟩)
      go_ret
      exact ⟨rfl, hb1⟩
  · go_enter Tryd.func6, Tryd.ntmps6
    go_wp2_with (go_at_call 10; refine HAW.out.mono ?_; rintro e w1 ⟨rfl, hb1⟩)
    go_ret
    exact ⟨rfl, hb1⟩

set_option maxRecDepth 100000 in
theorem izlib_lifted (os : Os) (started : os.Started) (H : Type) (enc : TypeId × Value → H) :
    ReturnsInHanded {} Tryd.checked os 6 .any (fun w args => (Rows.inflateZlibSpec.pre enc Tryd.prog Tryd.f6 Rows.inflateZlibRow.domain false w args ∧ laidMetH Tryd.prog Rows.inflateZlibRow.laid w) ∧ sizedMet enc Tryd.prog Tryd.f6 (OpenSpec.ofChange Rows.inflateZlibSpec) false w args) (Rows.inflateZlibSpec.post enc Tryd.prog Tryd.f6 false true false false) := by
  refine returnsInHanded_of_change_and (C := Tryd.checked) (X := fun w _ => laidMetH Tryd.prog Rows.inflateZlibRow.laid w) (fun _ _ _ hh h => h.of_heap hh) own started (by kernel_rfl) Tryd.func6
    (ChangeSpec.witness_shaped (enc := enc) (C := Tryd.checked) (os := os) (X := fun w _ => laidMetH Tryd.prog Rows.inflateZlibRow.laid w) false (World.laidAll Tryd.prog os Rows.inflateZlibRow.laid) #[.slice none 0 0, .int .i64 0] 8 (World.laidAll_os _ _ _)
      (World.shaped_of_ZipB (by kernel_rfl) (by kernel_rfl)) (by kernel_rfl) (by kernel_rfl) (by kernel_rfl)
      (by rw [MakeChecks.laidMetH_plain _ _ _ (by kernel_rfl)]; exact laidMet_laidAll _ (by kernel_rfl) (by kernel_rfl))) ?_
  intro W base args ds gs before hval0 hW hcnd _ hL _
  have hord : Ord W := ord_of_laid hL
  clear hL
  have hval : ∀ (j : Nat) t v, Tryd.f6.params[j]? = some t → args[j]? = some v → Value.okWide Tryd.prog W .any base t v := hval0
  have hW' := hW
  obtain ⟨p, q, hA0, hV, rfl, hfz, hnd⟩ := hW
  have hA : DataW.TrodAll enc Tryd.prog W 0 (fun _ => true) true Tryd.f6.params.toList args.toList ds p := hA0
  rw [Tryd.params6] at hA hval
  obtain ⟨v0, vs0, d0, ds0, p0, q0, hargs, rfl, rfl, h0, r0⟩ := trodAll_cons hA
  obtain ⟨v1, vs1, d1, ds1, p1, q1, rfl, rfl, rfl, h1, r1⟩ := trodAll_cons r0
  obtain ⟨rfl, rfl, rfl⟩ := trodAll_nil r1
  obtain rfl : args = #[v0, v1] := by cases args; simp_all
  obtain ⟨rfl, rfl⟩ := trodVars_none hV
  obtain ⟨a0, len0, cap0, rfl⟩ := okWide_slice Tryd.underlying23 (hval 0 23 v0 rfl rfl)
  obtain ⟨zs0, hz0, hcm0⟩ := open_bytes h0 (fun _ => rfl)
  have lt0 : ∀ x ∈ p0, x.block < W.heap.size := by obtain ⟨m, hm⟩ := h0; exact DataW.trod_lt m _ _ _ hm
  obtain ⟨x1, rfl⟩ := okWide_int Tryd.underlying3 (hval 1 3 v1 rfl rfl)
  obtain ⟨lo1, hi1⟩ := open_intk Tryd.underlying3 h1
  rw [show IntKind.i64.min = -9223372036854775808 by decide] at lo1
  rw [show IntKind.i64.max = 9223372036854775807 by decide] at hi1
  have lt1 : ∀ x ∈ p1, x.block < W.heap.size := by obtain ⟨m, hm⟩ := h1; exact DataW.trod_lt m _ _ _ hm
  have hmx : maxLen = 9223372036854775807 := by decide
  clear hA0 hval0
  refine (izlib_walk a0 len0 cap0 zs0 x1 W hord hz0 (by have := hz0.cap; omega) lo1 hi1).mono fun e W' ⟨he, bel⟩ => ?_
  subst he
  exact ⟨_, rfl, _, _, _, [], _, [], hW', trodAll_mk1 (shut_bool Tryd.underlying4 _), (trodAll_cons_mk (Below.trod laidOut (by kernel_rfl) (of_decide_eq_true (by kernel_rfl)) h0 bel lt0) (trodAll_cons_mk (Below.trod laidOut (by kernel_rfl) (of_decide_eq_true (by kernel_rfl)) h1 bel lt1) trodAll_mk0)), rfl, bel.frame _, fun h => by cases h⟩

/-- InflateZlib: it answers true. -/
theorem izlib_holds : Rows.InflateZlibSaid :=
  OpenClaim.holds_of_wide 6 Tryd.f6 rfl rfl rfl rfl rfl rfl rfl ⟨rfl, rfl, rfl, rfl, rfl⟩ rfl rfl rfl rfl rfl (by kernel_rfl) Tryd.func6 (by kernel_rfl)
    (of_decide_eq_true (by kernel_rfl)) (by unfold Func.isWrapper; first | (rw [if_pos (by decide +kernel)]; kernel_rfl) | (rw [if_neg (by decide +kernel)]; exact ⟨rfl, rfl⟩))
    (fun os started H enc _ => izlib_lifted os started H enc)
/-- The card of InflateZlib: what its row lists is tied to the program's text. -/
theorem izlib_card : Rows.InflateZlibCardSaid :=
  Claim7.holds_tied_plain_at .later [] [.data] true Rows.inflateZlibCard.stood.harness false izlib_holds (fun _ h => by cases h) (by kernel_rfl) (fun _ h => by cases h) inflateZlib_row_tie rfl ⟨rfl, rfl⟩ (by kernel_rfl) rfl
    (fun f fn hf hfn => by
      obtain rfl : f = 6 := Option.some.inj ((show Tryd.prog.funcNamed "pressmark/pressmarklaw4.InflateZlib" = some 6 by kernel_rfl).symm.trans hf) |>.symm
      obtain rfl : fn = Tryd.f6 := (Option.some.inj (Tryd.func6.symm.trans hfn)).symm
      exact ⟨by kernel_rfl, fun j t ht => by
        rw [Tryd.params6] at ht
        have hm : t ∈ [23, 3] := by simpa using Array.mem_of_getElem? ht
        have hall : ([23, 3].all fun u => !Tryd.prog.wantsStandIn u) = true := by kernel_rfl
        exact (show Tryd.prog.wantsStandIn t = false by simpa using List.all_eq_true.1 hall t hm)⟩)
    (by kernel_rfl)
#print axioms izlib_card
end Go.Proofs.YtgglgpgieeibnaaDoor
