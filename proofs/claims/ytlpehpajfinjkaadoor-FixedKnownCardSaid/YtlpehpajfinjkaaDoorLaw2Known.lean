/- FixedKnown: chapter 2's examples, and what is refused. No condition on the input. -/
import Derived.Test.YtlpehpajfinjkaaDoorLaid2
import Derived.Test.YtlpehpajfinjkaaDoorOpen2
namespace Go.Proofs.YtlpehpajfinjkaaDoor
open Go.ChangeShapes Go.WideShapes Go.ChangeAt Go.RowKit Go.Deep
set_option linter.unusedVariables false

theorem parse_lit (w : World) (fr : Nat × Nat) (zs : List Int) (hr : ∀ z ∈ zs, 0 ≤ z ∧ z < 256) (n : Nat) (hn : zs.length = n) (h4 : n ≤ 1000000) (C : Array Value) (hC : C = (zs.map (Value.int .u8)).toArray) (r : Int × Bool × Int) (hp : parseS zs = r) :
    Calls Tryd.prog 12 #[.slice (some ⟨w.heap.size, 0, none⟩) n n] (w.alloc (.cells C 5 fr)) fun e w' => e = .returned (tripV r) ∧ Below w.heap.size w w' := by
  rw [← hp]
  exact (fxParse _ n n zs _ (byt_litW w _ fr zs hr n hn C hC rfl) h4).mono fun e w' ⟨he, hb⟩ => ⟨he, ((Below.refl _ w).alloc (Nat.le_refl _) _).trans (hb.mono (by simp))⟩
set_option maxHeartbeats 1000000 in
theorem known_walk (w : World) (htab : Tab w) :
    Calls Tryd.prog 3 #[] w fun e w' => e = .returned (.bool true) ∧ Below w.heap.size w w' := by
  have HTB := Lib.hid htab
  have HAW := Lib.hid (awake_any w htab)
  clear htab
  have kc := fun (w : World) (C : Array Value) (n c : Nat) => Lib.run_convert_bytes_const (P := Tryd.prog) w 26 5 C n c Tryd.underlying26 Tryd.underlying5
  have E1 : Hid (parseS [48, 48, 55] = (7, true, 0)) := Lib.hid (by decide)
  have E2 : Hid (parseS [46] = (0, false, 4)) := Lib.hid (by decide)
  have E3 : Hid (parseS [50, 49, 52, 55, 52, 56, 51, 54, 52, 56] = (0, false, 5)) := Lib.hid (by decide)
  have em : mulS 150000 150000 = (225000, true) := by decide
  have ed : divS 100000 300000 = (33333, true) := by decide
  have e0 : divS 1 0 = (0, false) := by decide
  have et : (⟨(textB 200000 false).toArray⟩ : ByteArray) = ⟨#[50, 46, 48]⟩ := by kernel_rfl
  have et2 : (⟨(textB (-7) true).toArray⟩ : ByteArray) = ⟨#[45, 55]⟩ := by kernel_rfl
  have HM := Lib.hid (fun W => em ▸ fxMul 150000 150000 W)
  have HD := Lib.hid (fun W => ed ▸ fxDiv 100000 300000 W)
  have H0 := Lib.hid (fun W => e0 ▸ fxDiv 1 0 W)
  have HT := Lib.hid (fun W hT => et ▸ fxText 200000 false W (by omega) (by omega) hT)
  have HT2 := Lib.hid (fun W hT => et2 ▸ fxText (-7) true W (by omega) (by omega) hT)
  clear em ed e0 et et2
  go_enter Tryd.func3, Tryd.ntmps3
  go_wp2_with (first
    | (go_at_call 11; refine HAW.out.mono ?_; rintro e w1 ⟨rfl, q1⟩)
    | (go_at_call 12; (with_reducible refine (parse_lit w1 (3, 4) [48, 48, 55] (by decide) 3 rfl (by omega) #[.int .u8 48, .int .u8 48, .int .u8 55] rfl _ E1.out).mono ?_); rintro e w2 ⟨rfl, q2⟩; have r2 := q1.trans (q2.mono q1.size))
    | (go_at_call 12; (with_reducible refine (parse_lit w2 (1, 2) [46] (by decide) 1 rfl (by omega) #[.int .u8 46] rfl _ E2.out).mono ?_); rintro e w3 ⟨rfl, q3⟩; have r3 := r2.trans (q3.mono r2.size))
    | (go_at_call 12; (with_reducible refine (parse_lit w3 (10, 11) [50, 49, 52, 55, 52, 56, 51, 54, 52, 56] (by decide) 10 rfl (by omega) #[.int .u8 50, .int .u8 49, .int .u8 52, .int .u8 55, .int .u8 52, .int .u8 56, .int .u8 51, .int .u8 54, .int .u8 52, .int .u8 56] rfl _ E3.out).mono ?_); rintro e w4 ⟨rfl, q4⟩; have r4 := r3.trans (q4.mono r3.size))
    | (go_at_call 13; (with_reducible refine (HM.out _).mono ?_); rintro e w5 ⟨rfl, q5⟩; have r5 := r4.trans (q5.mono r4.size))
    | (go_at_call 14; (with_reducible refine (HD.out _).mono ?_); rintro e w6 ⟨rfl, q6⟩; have r6 := r5.trans (q6.mono r5.size))
    | (go_at_call 14; (with_reducible refine (H0.out _).mono ?_); rintro e w7 ⟨rfl, q7⟩; have r7 := r6.trans (q7.mono r6.size))
    | (go_at_call 15; (with_reducible refine (HT.out w7 (HTB.out.below r7 (Nat.le_refl _))).mono ?_); rintro e w8 ⟨rfl, q8⟩; have r8 := r7.trans (q8.mono r7.size))
    | (go_at_call 15; (with_reducible refine (HT2.out w8 (HTB.out.below r8 (Nat.le_refl _))).mono ?_); rintro e w9 ⟨rfl, q9⟩; have r9 := r8.trans (q9.mono r8.size)))
  go_ret
  exact ⟨rfl, r9⟩

set_option maxRecDepth 100000 in
theorem known_lifted (os : Os) (started : os.Started) (H : Type) (enc : TypeId × Value → H) :
    ReturnsInHanded {} Tryd.checked os 3 .any (fun w args => (Rows.fixedKnownSpec.pre enc Tryd.prog Tryd.f3 Rows.fixedKnownRow.domain false w args ∧ laidMetH Tryd.prog Rows.fixedKnownRow.laid w) ∧ sizedMet enc Tryd.prog Tryd.f3 (OpenSpec.ofChange Rows.fixedKnownSpec) false w args) (Rows.fixedKnownSpec.post enc Tryd.prog Tryd.f3 false true false false) := by
  refine returnsInHanded_of_change_and (C := Tryd.checked) (X := fun w _ => laidMetH Tryd.prog Rows.fixedKnownRow.laid w) (fun _ _ _ hh h => h.of_heap hh) own started (by kernel_rfl) Tryd.func3
    (ChangeSpec.witness_shaped (enc := enc) (C := Tryd.checked) (os := os) (X := fun w _ => laidMetH Tryd.prog Rows.fixedKnownRow.laid w) false (World.laidAll Tryd.prog os Rows.fixedKnownRow.laid) #[] 8 (World.laidAll_os _ _ _)
      (World.shaped_of_ZipB (by kernel_rfl) (by kernel_rfl)) (by kernel_rfl) (by kernel_rfl) (by kernel_rfl)
      (by rw [MakeChecks.laidMetH_plain _ _ _ (by kernel_rfl)]; exact laidMet_laidAll _ (by kernel_rfl) (by kernel_rfl))) ?_
  intro W base args ds gs before hval0 hW hcnd _ hL _
  have htab : Tab W := tab_of_laid hL
  clear hL
  have hval : ∀ (j : Nat) t v, Tryd.f3.params[j]? = some t → args[j]? = some v → Value.okWide Tryd.prog W .any base t v := hval0
  have hW' := hW
  obtain ⟨p, q, hA0, hV, rfl, hfz, hnd⟩ := hW
  have hA : DataW.TrodAll enc Tryd.prog W 0 (fun _ => true) true Tryd.f3.params.toList args.toList ds p := hA0
  rw [Tryd.params3] at hA hval
  obtain ⟨rfl, rfl, rfl⟩ := trodAll_none hA
  obtain ⟨rfl, rfl⟩ := trodVars_none hV
  have hmx : maxLen = 9223372036854775807 := by decide
  clear hA0 hval0
  simp only [List.append_nil] at hW'
  refine (known_walk  W htab ).mono fun e W' ⟨he, bel⟩ => ?_
  subst he
  exact ⟨_, rfl, _, _, _, [], [], [], hW', trodAll_mk1 (shut_bool Tryd.underlying4 _), trodAll_mk0, rfl, bel.frame _, fun h => by cases h⟩

/-- FixedKnown: it answers true. -/
theorem known_holds : Rows.FixedKnownSaid :=
  OpenClaim.holds_of_wide 3 Tryd.f3 rfl rfl rfl rfl rfl rfl rfl ⟨rfl, rfl, rfl, rfl, rfl⟩ rfl rfl rfl rfl rfl (by kernel_rfl) Tryd.func3 (by kernel_rfl)
    (of_decide_eq_true (by kernel_rfl)) (by unfold Func.isWrapper; first | (rw [if_pos (by decide +kernel)]; kernel_rfl) | (rw [if_neg (by decide +kernel)]; exact ⟨rfl, rfl⟩))
    (fun os started H enc _ => known_lifted os started H enc)
/-- The card of FixedKnown: what its row lists is tied to the program's text. -/
theorem known_card : Rows.FixedKnownCardSaid :=
  Claim7.holds_tied_plain_at .later [] [.data, .data, .data, .data, .pinned] true Rows.fixedKnownCard.stood.harness false known_holds (fun _ h => by cases h) (by kernel_rfl) (fun _ h => by cases h) fixedKnown_row_tie rfl ⟨rfl, rfl⟩ (by kernel_rfl) rfl
    (fun f fn hf hfn => by
      obtain rfl : f = 3 := Option.some.inj ((show Tryd.prog.funcNamed "pressmark/pressmarklaw2.FixedKnown" = some 3 by kernel_rfl).symm.trans hf) |>.symm
      obtain rfl : fn = Tryd.f3 := (Option.some.inj (Tryd.func3.symm.trans hfn)).symm
      exact ⟨by kernel_rfl, fun j t ht => by
        rw [Tryd.params3] at ht
        simp at ht⟩)
    (by kernel_rfl)
#print axioms known_card

end Go.Proofs.YtlpehpajfinjkaaDoor
