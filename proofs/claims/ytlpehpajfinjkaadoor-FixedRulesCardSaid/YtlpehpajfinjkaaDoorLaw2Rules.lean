/- FixedRules: the order of two, one, signs. No condition on the input. -/
import Derived.Test.YtlpehpajfinjkaaDoorLaid2
import Derived.Test.YtlpehpajfinjkaaDoorOpen2
namespace Go.Proofs.YtlpehpajfinjkaaDoor
open Go.ChangeShapes Go.WideShapes Go.ChangeAt Go.RowKit Go.Deep
set_option linter.unusedVariables false

theorem add_two (x y : Int) (hx : inB x = true) (hy : inB y = true) : addP [x, y] = (numV (x + y), inB (x + y)) := by
  unfold addP addS addS addS
  rw [Int.zero_add, if_pos ⟨hx, hx⟩]
  cases h : inB (x + y)
  · rw [if_neg (by simp), numV_no h]
  · rw [if_pos ⟨hy, rfl⟩, numV_yes h]
theorem inB_neg (x : Int) : inB (-x) = inB x := by
  unfold inB
  congr 1
  apply propext
  omega
theorem ints_two (w W : World) (fr : Nat × Nat) (x y : Int) (hW : W = w.alloc (.cells #[.int .i64 x, .int .i64 y] 2 fr)) : Ints W W.heap.size (some ⟨w.heap.size, 0, none⟩) 2 2 [x, y] := by
  have e : (w.alloc (.cells #[.int .i64 x, .int .i64 y] 2 fr)).heap.size = w.heap.size + 1 := by simp
  rw [hW, e]
  refine ⟨rfl, Nat.le_refl _, fun _ => ⟨w.heap.size, 0, rfl, by omega, fun i hi => ?_⟩⟩
  rw [World.cell?_alloc_mark, Nat.zero_add]
  match i, hi with
  | 0, _ => rfl
  | 1, _ => rfl
theorem add_lit (w : World) (fr : Nat × Nat) (x y : Int) (r : Int × Bool) (hx : inB x = true) (hy : inB y = true) (hr : (numV (x + y), inB (x + y)) = r) :
    Calls Tryd.prog 22 #[.slice (some ⟨w.heap.size, 0, none⟩) 2 2] (w.alloc (.cells #[.int .i64 x, .int .i64 y] 2 fr)) fun e w' => e = .returned (pairV r) ∧ Below w.heap.size w w' := by
  rw [← hr, ← add_two x y hx hy]
  exact (fxAdd _ 2 2 _ _ (ints_two w _ fr x y rfl) (by omega)).mono fun e w' ⟨he, hb⟩ => ⟨he, ((Below.refl _ w).alloc (Nat.le_refl _) _).trans (hb.mono (by simp))⟩
theorem rules_out (a b : Int) (w : World) (htab : Tab w) (h : inB a = false ∨ (inB a = true ∧ inB b = false)) :
    Calls Tryd.prog 8 #[.int .i64 a, .int .i64 b] w fun e w' => e = .returned (.bool true) ∧ Below w.heap.size w w' := by
  have HTB := Lib.hid htab
  have HAW := Lib.hid (awake_any w htab)
  clear htab
  have hja := fun W => refIn_any a W
  have hjb := fun W => refIn_any b W
  rcases h with h | ⟨h, h2⟩
  · rw [h] at hja
    have HA := Lib.hid hja
    clear hja hjb h
    go_enter Tryd.func8, Tryd.ntmps8
    go_wp2_with (first
      | (go_at_call 11; refine HAW.out.mono ?_; rintro e w1 ⟨rfl, q1⟩)
      | (go_at_call 19; (with_reducible refine (HA.out _).mono ?_); rintro e w' ⟨rfl, rfl⟩))
    go_ret
    exact ⟨rfl, q1⟩
  · rw [h] at hja
    rw [h2] at hjb
    have HA := Lib.hid hja
    have HB := Lib.hid hjb
    clear hja hjb h h2
    go_enter Tryd.func8, Tryd.ntmps8
    go_wp2_with (first
      | (go_at_call 11; refine HAW.out.mono ?_; rintro e w1 ⟨rfl, q1⟩)
      | (go_at_call 19; (with_reducible refine (HB.out _).mono ?_); rintro e w' ⟨rfl, rfl⟩)
      | (go_at_call 19; (with_reducible refine (HA.out _).mono ?_); rintro e w' ⟨rfl, rfl⟩))
    go_ret
    exact ⟨rfl, q1⟩
set_option maxRecDepth 100000 in
theorem rules_in (a b : Int) (w : World) (htab : Tab w) (ha : inB a = true) (hb : inB b = true) :
    Calls Tryd.prog 8 #[.int .i64 a, .int .i64 b] w fun e w' => e = .returned (.bool true) ∧ Below w.heap.size w w' := by
  obtain ⟨a0, a1⟩ := (inB_iff a).1 ha
  obtain ⟨b0, b1⟩ := (inB_iff b).1 hb
  have HTB := Lib.hid htab
  have HAW := Lib.hid (awake_any w htab)
  clear htab
  have HIA := Lib.hid (fun W => ha ▸ refIn_any a W)
  have HIB := Lib.hid (fun W => hb ▸ refIn_any b W)
  have hone : inB 100000 = true := by decide
  have hna : inB (-a) = true := by rw [inB_neg]; exact ha
  obtain ⟨f, hf⟩ : ∃ f, inB (a + b) = f := ⟨_, rfl⟩
  obtain ⟨x, hx⟩ : ∃ x, numV (a + b) = x := ⟨_, rfl⟩
  obtain ⟨g, hg⟩ : ∃ g, inB ((a * b).tdiv 100000) = g := ⟨_, rfl⟩
  obtain ⟨p, hp⟩ : ∃ p, numV ((a * b).tdiv 100000) = p := ⟨_, rfl⟩
  have e1 : mulS a 100000 = (a, true) := by
    unfold mulS
    rw [if_pos ⟨ha, hone⟩, Int.mul_tdiv_cancel _ (by omega), numV_yes ha, ha]
  have e2 : divS a 100000 = (a, true) := by
    unfold divS
    rw [if_pos ⟨ha, hone, by omega⟩, Int.mul_tdiv_cancel _ (by omega), numV_yes ha, ha]
  have e3 : mulS a b = (p, g) := by
    unfold mulS
    rw [if_pos ⟨ha, hb⟩, hp, hg]
  have e4 : mulS (-a) b = (-p, g) := by
    unfold mulS
    rw [if_pos ⟨hna, hb⟩, Int.neg_mul, Int.neg_tdiv, inB_neg, hg]
    congr 1
    rw [← hp]
    unfold numV
    rw [inB_neg]
    split <;> omega
  have hpb : -214748364799999 ≤ p ∧ p ≤ 214748364799999 := by
    rw [← hp]
    unfold numV
    split
    · next h => exact (inB_iff _).1 h
    · omega
  obtain ⟨p0, p1⟩ := hpb
  have HI := Lib.hid (fun W => hf ▸ refIn_any (a + b) W)
  have HAB := Lib.hid (fun W fr => add_lit W fr a b (x, f) ha hb (by rw [hf, hx]))
  have HBA := Lib.hid (fun W fr => add_lit W fr b a (x, f) hb ha (by rw [Int.add_comm b a, hf, hx]))
  have HM1 := Lib.hid (fun W => e1 ▸ fxMul a 100000 W)
  have HD1 := Lib.hid (fun W => e2 ▸ fxDiv a 100000 W)
  have HM2 := Lib.hid (fun W => e3 ▸ fxMul a b W)
  have HM3 := Lib.hid (fun W => e4 ▸ fxMul (-a) b W)
  clear ha hb hone hna hf hx hg hp e1 e2 e3 e4
  go_enter Tryd.func8, Tryd.ntmps8
  go_wp2_with (first
    | (go_at_call 11; refine HAW.out.mono ?_; rintro e w1 ⟨rfl, q1⟩)
    | (go_at_call 19; (with_reducible refine (HI.out _).mono ?_); rintro e w' ⟨rfl, rfl⟩)
    | (go_at_call 19; (with_reducible refine (HIB.out _).mono ?_); rintro e w' ⟨rfl, rfl⟩)
    | (go_at_call 19; (with_reducible refine (HIA.out _).mono ?_); rintro e w' ⟨rfl, rfl⟩)
    | (go_at_call 22; (with_reducible refine (HAB.out w1 _).mono ?_); rintro e w2 ⟨rfl, q2⟩; have r2 := q1.trans (q2.mono q1.size))
    | (go_at_call 22; (with_reducible refine (HBA.out w2 _).mono ?_); rintro e w3 ⟨rfl, q3⟩; have r3 := r2.trans (q3.mono r2.size))
    | (go_at_call 13; (with_reducible refine (HM1.out _).mono ?_); rintro e w4 ⟨rfl, q4⟩; have r4 := r3.trans (q4.mono r3.size))
    | (go_at_call 14; (with_reducible refine (HD1.out _).mono ?_); rintro e w5 ⟨rfl, q5⟩; have r5 := r4.trans (q5.mono r4.size))
    | (go_at_call 13; (with_reducible refine (HM2.out _).mono ?_); rintro e w6 ⟨rfl, q6⟩; have r6 := r5.trans (q6.mono r5.size))
    | (go_at_call 13; (with_reducible refine (HM3.out _).mono ?_); rintro e w7 ⟨rfl, q7⟩; have r7 := r6.trans (q7.mono r6.size)))
  go_ret
  exact ⟨by simp, r7⟩
theorem rules_walk (a b : Int) (w : World) (htab : Tab w) (ha0 : -9223372036854775808 ≤ a) (ha1 : a ≤ 9223372036854775807) (hb0 : -9223372036854775808 ≤ b) (hb1 : b ≤ 9223372036854775807) :
    Calls Tryd.prog 8 #[.int .i64 a, .int .i64 b] w fun e w' => e = .returned (.bool true) ∧ Below w.heap.size w w' := by
  rcases ha : inB a with _ | _
  · exact rules_out a b w htab (.inl ha)
  · rcases hb : inB b with _ | _
    · exact rules_out a b w htab (.inr ⟨ha, hb⟩)
    · exact rules_in a b w htab ha hb

set_option maxRecDepth 100000 in
theorem rules_lifted (os : Os) (started : os.Started) (H : Type) (enc : TypeId × Value → H) :
    ReturnsInHanded {} Tryd.checked os 8 .any (fun w args => (Rows.fixedRulesSpec.pre enc Tryd.prog Tryd.f8 Rows.fixedRulesRow.domain false w args ∧ laidMetH Tryd.prog Rows.fixedRulesRow.laid w) ∧ sizedMet enc Tryd.prog Tryd.f8 (OpenSpec.ofChange Rows.fixedRulesSpec) false w args) (Rows.fixedRulesSpec.post enc Tryd.prog Tryd.f8 false true false false) := by
  refine returnsInHanded_of_change_and (C := Tryd.checked) (X := fun w _ => laidMetH Tryd.prog Rows.fixedRulesRow.laid w) (fun _ _ _ hh h => h.of_heap hh) own started (by kernel_rfl) Tryd.func8
    (ChangeSpec.witness_shaped (enc := enc) (C := Tryd.checked) (os := os) (X := fun w _ => laidMetH Tryd.prog Rows.fixedRulesRow.laid w) false (World.laidAll Tryd.prog os Rows.fixedRulesRow.laid) #[.int .i64 0, .int .i64 0] 8 (World.laidAll_os _ _ _)
      (World.shaped_of_ZipB (by kernel_rfl) (by kernel_rfl)) (by kernel_rfl) (by kernel_rfl) (by kernel_rfl)
      (by rw [MakeChecks.laidMetH_plain _ _ _ (by kernel_rfl)]; exact laidMet_laidAll _ (by kernel_rfl) (by kernel_rfl))) ?_
  intro W base args ds gs before hval0 hW hcnd _ hL _
  have htab : Tab W := tab_of_laid hL
  clear hL
  have hval : ∀ (j : Nat) t v, Tryd.f8.params[j]? = some t → args[j]? = some v → Value.okWide Tryd.prog W .any base t v := hval0
  have hW' := hW
  obtain ⟨p, q, hA0, hV, rfl, hfz, hnd⟩ := hW
  have hA : DataW.TrodAll enc Tryd.prog W 0 (fun _ => true) true Tryd.f8.params.toList args.toList ds p := hA0
  rw [Tryd.params8] at hA hval
  obtain ⟨v0, vs0, d0, ds0, p0, q0, hargs, rfl, rfl, h0, r0⟩ := trodAll_cons hA
  obtain ⟨v1, vs1, d1, ds1, p1, q1, rfl, rfl, rfl, h1, r1⟩ := trodAll_cons r0
  obtain ⟨rfl, rfl, rfl⟩ := trodAll_nil r1
  obtain rfl : args = #[v0, v1] := by cases args; simp_all
  obtain ⟨rfl, rfl⟩ := trodVars_none hV
  obtain ⟨x0, rfl⟩ := okWide_int Tryd.underlying2 (hval 0 2 v0 rfl rfl)
  obtain ⟨lo0, hi0⟩ := open_i64 h0
  have lt0 : ∀ x ∈ p0, x.block < W.heap.size := by obtain ⟨m, hm⟩ := h0; exact DataW.trod_lt m _ _ _ hm
  obtain ⟨x1, rfl⟩ := okWide_int Tryd.underlying2 (hval 1 2 v1 rfl rfl)
  obtain ⟨lo1, hi1⟩ := open_i64 h1
  have lt1 : ∀ x ∈ p1, x.block < W.heap.size := by obtain ⟨m, hm⟩ := h1; exact DataW.trod_lt m _ _ _ hm
  have hmx : maxLen = 9223372036854775807 := by decide
  clear hA0 hval0
  refine (rules_walk x0 x1 W htab lo0 hi0 lo1 hi1).mono fun e W' ⟨he, bel⟩ => ?_
  subst he
  exact ⟨_, rfl, _, _, _, [], _, [], hW', trodAll_mk1 (shut_bool Tryd.underlying4 _), (trodAll_cons_mk (Below.trod laidOut (by kernel_rfl) (of_decide_eq_true (by kernel_rfl)) h0 bel lt0) (trodAll_cons_mk (Below.trod laidOut (by kernel_rfl) (of_decide_eq_true (by kernel_rfl)) h1 bel lt1) trodAll_mk0)), rfl, bel.frame _, fun h => by cases h⟩

/-- FixedRules: it answers true. -/
theorem rules_holds : Rows.FixedRulesSaid :=
  OpenClaim.holds_of_wide 8 Tryd.f8 rfl rfl rfl rfl rfl rfl rfl ⟨rfl, rfl, rfl, rfl, rfl⟩ rfl rfl rfl rfl rfl (by kernel_rfl) Tryd.func8 (by kernel_rfl)
    (of_decide_eq_true (by kernel_rfl)) (by unfold Func.isWrapper; first | (rw [if_pos (by decide +kernel)]; kernel_rfl) | (rw [if_neg (by decide +kernel)]; exact ⟨rfl, rfl⟩))
    (fun os started H enc _ => rules_lifted os started H enc)
/-- The card of FixedRules: what its row lists is tied to the program's text. -/
theorem rules_card : Rows.FixedRulesCardSaid :=
  Claim7.holds_tied_plain_at .later [] [.data, .data, .data, .data, .pinned] true Rows.fixedRulesCard.stood.harness false rules_holds (fun _ h => by cases h) (by kernel_rfl) (fun _ h => by cases h) fixedRules_row_tie rfl ⟨rfl, rfl⟩ (by kernel_rfl) rfl
    (fun f fn hf hfn => by
      obtain rfl : f = 8 := Option.some.inj ((show Tryd.prog.funcNamed "pressmark/pressmarklaw2.FixedRules" = some 8 by kernel_rfl).symm.trans hf) |>.symm
      obtain rfl : fn = Tryd.f8 := (Option.some.inj (Tryd.func8.symm.trans hfn)).symm
      exact ⟨by kernel_rfl, fun j t ht => by
        rw [Tryd.params8] at ht
        have hm : t ∈ [2, 2] := by simpa using Array.mem_of_getElem? ht
        have hall : ([2, 2].all fun u => !Tryd.prog.wantsStandIn u) = true := by kernel_rfl
        exact (show Tryd.prog.wantsStandIn t = false by simpa using List.all_eq_true.1 hall t hm)⟩)
    (by kernel_rfl)
#print axioms rules_card

end Go.Proofs.YtlpehpajfinjkaaDoor
