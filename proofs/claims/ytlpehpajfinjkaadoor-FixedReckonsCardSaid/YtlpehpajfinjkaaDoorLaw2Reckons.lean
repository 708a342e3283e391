/- FixedReckons: of any numbers: their sum, product, quotient, or that there is none. No condition on the input. -/
import Derived.Test.YtlpehpajfinjkaaDoorLaid2
import Derived.Test.YtlpehpajfinjkaaDoorOpen2
namespace Go.Proofs.YtlpehpajfinjkaaDoor
open Go.ChangeShapes Go.WideShapes Go.ChangeAt Go.RowKit Go.Deep
set_option linter.unusedVariables false

theorem reckons_walk (a b : Int) (A : Option Addr) (n c : Nat) (zs : List Int) (w : World) (htab : Tab w) (ha0 : -9223372036854775808 ≤ a) (ha1 : a ≤ 9223372036854775807) (hb0 : -9223372036854775808 ≤ b) (hb1 : b ≤ 9223372036854775807) (hz : Ints w w.heap.size A n c zs) (hn : n ≤ 9223372036854775807) :
    Calls Tryd.prog 7 #[.int .i64 a, .int .i64 b, .slice A n c] w fun e w' => e = .returned (.bool true) ∧ Below w.heap.size w w' := by
  have HTB := Lib.hid htab
  have HAW := Lib.hid (awake_any w htab)
  clear htab
  have HZ := Lib.hid hz
  obtain ⟨⟨m, mf⟩, hm⟩ : ∃ x, mulS a b = x := ⟨_, rfl⟩
  obtain ⟨⟨d, df⟩, hd⟩ : ∃ x, divS a b = x := ⟨_, rfl⟩
  obtain ⟨⟨s, sf⟩, hs⟩ : ∃ x, addP zs = x := ⟨_, rfl⟩
  have HM := Lib.hid (fun W => hm ▸ fxMul a b W)
  have HM2 := Lib.hid (fun W => hm ▸ refMul a b W)
  have HD := Lib.hid (fun W => hd ▸ fxDiv a b W)
  have HD2 := Lib.hid (fun W => hd ▸ refDiv a b W)
  have HS := Lib.hid (fun W (h : Ints W W.heap.size A n c zs) (h2 : n ≤ 1000000) => hs ▸ fxAdd A n c zs W h h2)
  have HS2 := Lib.hid (fun W B (h : Ints W B A n c zs) => hs ▸ refAddP A n c B zs W h hn)
  clear hz hm hd hs
  by_cases hbig : n ≤ 50
  · go_enter Tryd.func7, Tryd.ntmps7
    go_wp2_with (first
      | (go_at_call 11; refine HAW.out.mono ?_; rintro e w1 ⟨rfl, q1⟩)
      | (go_at_call 13; refine (HM.out _).mono ?_; rintro e w2 ⟨rfl, q2⟩; have r2 := q1.trans (q2.mono q1.size))
      | (go_at_call 20; refine (HM2.out _).mono ?_; rintro e w3 ⟨rfl, rfl⟩)
      | (go_at_call 14; refine (HD.out _).mono ?_; rintro e w4 ⟨rfl, q4⟩; have r4 := r2.trans (q4.mono r2.size))
      | (go_at_call 21; refine (HD2.out _).mono ?_; rintro e w5 ⟨rfl, rfl⟩)
      | (go_at_call 22; refine (HS.out _ ((HZ.out.below r4 (Nat.le_refl _)).more r4.size) (by omega)).mono ?_; rintro e w6 ⟨rfl, q6⟩; have r6 := r4.trans (q6.mono r4.size))
      | (go_at_call 23; refine (HS2.out _ _ (HZ.out.below r6 (Nat.le_refl _))).mono ?_; rintro e w7 ⟨rfl, rfl⟩))
    go_ret
    exact ⟨by simp, r6⟩
  · go_enter Tryd.func7, Tryd.ntmps7
    go_wp2_with (first
      | (go_at_call 11; refine HAW.out.mono ?_; rintro e w1 ⟨rfl, q1⟩))
    go_ret
    exact ⟨rfl, q1⟩

set_option maxRecDepth 100000 in
theorem reckons_lifted (os : Os) (started : os.Started) (H : Type) (enc : TypeId × Value → H) :
    ReturnsInHanded {} Tryd.checked os 7 .any (fun w args => (Rows.fixedReckonsSpec.pre enc Tryd.prog Tryd.f7 Rows.fixedReckonsRow.domain false w args ∧ laidMetH Tryd.prog Rows.fixedReckonsRow.laid w) ∧ sizedMet enc Tryd.prog Tryd.f7 (OpenSpec.ofChange Rows.fixedReckonsSpec) false w args) (Rows.fixedReckonsSpec.post enc Tryd.prog Tryd.f7 false true false false) := by
  refine returnsInHanded_of_change_and (C := Tryd.checked) (X := fun w _ => laidMetH Tryd.prog Rows.fixedReckonsRow.laid w) (fun _ _ _ hh h => h.of_heap hh) own started (by kernel_rfl) Tryd.func7
    (ChangeSpec.witness_shaped (enc := enc) (C := Tryd.checked) (os := os) (X := fun w _ => laidMetH Tryd.prog Rows.fixedReckonsRow.laid w) false (World.laidAll Tryd.prog os Rows.fixedReckonsRow.laid) #[.int .i64 0, .int .i64 0, .slice none 0 0] 8 (World.laidAll_os _ _ _)
      (World.shaped_of_ZipB (by kernel_rfl) (by kernel_rfl)) (by kernel_rfl) (by kernel_rfl) (by kernel_rfl)
      (by rw [MakeChecks.laidMetH_plain _ _ _ (by kernel_rfl)]; exact laidMet_laidAll _ (by kernel_rfl) (by kernel_rfl))) ?_
  intro W base args ds gs before hval0 hW hcnd _ hL _
  have htab : Tab W := tab_of_laid hL
  clear hL
  have hval : ∀ (j : Nat) t v, Tryd.f7.params[j]? = some t → args[j]? = some v → Value.okWide Tryd.prog W .any base t v := hval0
  have hW' := hW
  obtain ⟨p, q, hA0, hV, rfl, hfz, hnd⟩ := hW
  have hA : DataW.TrodAll enc Tryd.prog W 0 (fun _ => true) true Tryd.f7.params.toList args.toList ds p := hA0
  rw [Tryd.params7] at hA hval
  obtain ⟨v0, vs0, d0, ds0, p0, q0, hargs, rfl, rfl, h0, r0⟩ := trodAll_cons hA
  obtain ⟨v1, vs1, d1, ds1, p1, q1, rfl, rfl, rfl, h1, r1⟩ := trodAll_cons r0
  obtain ⟨v2, vs2, d2, ds2, p2, q2, rfl, rfl, rfl, h2, r2⟩ := trodAll_cons r1
  obtain ⟨rfl, rfl, rfl⟩ := trodAll_nil r2
  obtain rfl : args = #[v0, v1, v2] := by cases args; simp_all
  obtain ⟨rfl, rfl⟩ := trodVars_none hV
  obtain ⟨x0, rfl⟩ := okWide_int Tryd.underlying2 (hval 0 2 v0 rfl rfl)
  obtain ⟨lo0, hi0⟩ := open_i64 h0
  have lt0 : ∀ x ∈ p0, x.block < W.heap.size := by obtain ⟨m, hm⟩ := h0; exact DataW.trod_lt m _ _ _ hm
  obtain ⟨x1, rfl⟩ := okWide_int Tryd.underlying2 (hval 1 2 v1 rfl rfl)
  obtain ⟨lo1, hi1⟩ := open_i64 h1
  have lt1 : ∀ x ∈ p1, x.block < W.heap.size := by obtain ⟨m, hm⟩ := h1; exact DataW.trod_lt m _ _ _ hm
  obtain ⟨a2, len2, cap2, rfl⟩ := okWide_slice Tryd.underlying35 (hval 2 35 v2 rfl rfl)
  obtain ⟨zs2, hz2, hcm2⟩ := open_i64s h2 (fun _ => rfl)
  have lt2 : ∀ x ∈ p2, x.block < W.heap.size := by obtain ⟨m, hm⟩ := h2; exact DataW.trod_lt m _ _ _ hm
  have hmx : maxLen = 9223372036854775807 := by decide
  clear hA0 hval0
  refine (reckons_walk x0 x1 a2 len2 cap2 zs2 W htab lo0 hi0 lo1 hi1 hz2 (by have := hz2.cap; omega)).mono fun e W' ⟨he, bel⟩ => ?_
  subst he
  exact ⟨_, rfl, _, _, _, [], _, [], hW', trodAll_mk1 (shut_bool Tryd.underlying4 _), (trodAll_cons_mk (Below.trod laidOut (by kernel_rfl) (of_decide_eq_true (by kernel_rfl)) h0 bel lt0) (trodAll_cons_mk (Below.trod laidOut (by kernel_rfl) (of_decide_eq_true (by kernel_rfl)) h1 bel lt1) (trodAll_cons_mk (Below.trod laidOut (by kernel_rfl) (of_decide_eq_true (by kernel_rfl)) h2 bel lt2) trodAll_mk0))), rfl, bel.frame _, fun h => by cases h⟩

/-- FixedReckons: it answers true. -/
theorem reckons_holds : Rows.FixedReckonsSaid :=
  OpenClaim.holds_of_wide 7 Tryd.f7 rfl rfl rfl rfl rfl rfl rfl ⟨rfl, rfl, rfl, rfl, rfl⟩ rfl rfl rfl rfl rfl (by kernel_rfl) Tryd.func7 (by kernel_rfl)
    (of_decide_eq_true (by kernel_rfl)) (by unfold Func.isWrapper; first | (rw [if_pos (by decide +kernel)]; kernel_rfl) | (rw [if_neg (by decide +kernel)]; exact ⟨rfl, rfl⟩))
    (fun os started H enc _ => reckons_lifted os started H enc)
/-- The card of FixedReckons: what its row lists is tied to the program's text. -/
theorem reckons_card : Rows.FixedReckonsCardSaid :=
  Claim7.holds_tied_plain_at .later [] [.data, .data, .data, .data, .pinned] true Rows.fixedReckonsCard.stood.harness false reckons_holds (fun _ h => by cases h) (by kernel_rfl) (fun _ h => by cases h) fixedReckons_row_tie rfl ⟨rfl, rfl⟩ (by kernel_rfl) rfl
    (fun f fn hf hfn => by
      obtain rfl : f = 7 := Option.some.inj ((show Tryd.prog.funcNamed "pressmark/pressmarklaw2.FixedReckons" = some 7 by kernel_rfl).symm.trans hf) |>.symm
      obtain rfl : fn = Tryd.f7 := (Option.some.inj (Tryd.func7.symm.trans hfn)).symm
      exact ⟨by kernel_rfl, fun j t ht => by
        rw [Tryd.params7] at ht
        have hm : t ∈ [2, 2, 35] := by simpa using Array.mem_of_getElem? ht
        have hall : ([2, 2, 35].all fun u => !Tryd.prog.wantsStandIn u) = true := by kernel_rfl
        exact (show Tryd.prog.wantsStandIn t = false by simpa using List.all_eq_true.1 hall t hm)⟩)
    (by kernel_rfl)
#print axioms reckons_card

end Go.Proofs.YtlpehpajfinjkaaDoor
