/- InflateKnown: chapter 4's example, and what is refused. No condition on the input. -/
import Derived.Test.YtgglgpgieeibnaaDoorLaw4Do
import Derived.Test.YtgglgpgieeibnaaDoorPZl
namespace Go.Proofs.YtgglgpgieeibnaaDoor
open Go.ChangeShapes Go.WideShapes Go.ChangeAt Go.RowKit Go.Deep
set_option linter.unusedVariables false
set_option maxRecDepth 100000

theorem litBlocks (w : World) (ho : Ord w) (zs : List Int) (hz : ∀ z ∈ zs, 0 ≤ z ∧ z < 256) (k : Nat) (hk : zs.length = k) (cs : Array Value) (hcs : cs = (zs.map (Value.int .u8)).toArray) (m : Int) (M : Nat) (hM : max m 0 = M) (m0 : 0 ≤ m) (hMb : M ≤ 100000000) (hkb : k ≤ 1000000) (x : List Int × Nat × Int) (hx : blocksS zs M = x) :
    Calls Tryd.prog 11 #[.slice (some ⟨w.heap.size, 0, none⟩) k k, .int .i64 m] (w.alloc (.cells cs 5)) (FlowPost w x) := by
  have hb := (byt_lit w (0, 0) zs hz k hk cs hcs).more (B' := (w.alloc (.cells cs 5)).heap.size) (by rw [World.size_alloc]; exact Nat.le_refl _)
  exact (hx ▸ inBlocks _ k k M m zs _ hb (ho.below ((Below.refl _ w).alloc (Nat.le_refl _) _) (Nat.le_refl _)) hkb hMb hM (by omega)).mono fun r w' ⟨A', c', h1, h2, h3, h4⟩ => ⟨A', c', h1, h2, h3, ((Below.refl _ w).alloc (Nat.le_refl _) _).trans (h4.mono (by rw [World.size_alloc]; omega))⟩
theorem litZlib (w : World) (ho : Ord w) (zs : List Int) (hz : ∀ z ∈ zs, 0 ≤ z ∧ z < 256) (k : Nat) (hk : zs.length = k) (cs : Array Value) (hcs : cs = (zs.map (Value.int .u8)).toArray) (m : Int) (M : Nat) (hM : max m 0 = M) (m0 : 0 ≤ m) (hMb : M ≤ 100000000) (hkb : k ≤ 1000000) (x : List Int × Nat × Int) (hx : unzS zs M = x) :
    Calls Tryd.prog 12 #[.slice (some ⟨w.heap.size, 0, none⟩) k k, .int .i64 m] (w.alloc (.cells cs 5)) (FlowPost w x) := by
  have hb := (byt_lit w (0, 0) zs hz k hk cs hcs).more (B' := (w.alloc (.cells cs 5)).heap.size) (by rw [World.size_alloc]; exact Nat.le_refl _)
  exact (hx ▸ inZlib _ k k M m zs _ hb (ho.below ((Below.refl _ w).alloc (Nat.le_refl _) _) (Nat.le_refl _)) hkb hMb hM (by omega)).mono fun r w' ⟨A', c', h1, h2, h3, h4⟩ => ⟨A', c', h1, h2, h3, ((Below.refl _ w).alloc (Nat.le_refl _) _).trans (h4.mono (by rw [World.size_alloc]; omega))⟩
set_option maxRecDepth 100000 in
theorem kb1 (w : World) (ho : Ord w) : Calls Tryd.prog 11 #[.slice (some ⟨w.heap.size, 0, none⟩) 1 1, .int .i64 9] (w.alloc (.cells #[.int .u8 7] 5)) (FlowPost w ([], 0, 4)) :=
  litBlocks w ho [7] (by decide) 1 rfl _ rfl 9 9 (by decide) (by decide) (by decide) (by decide) _ (by decide +kernel)
set_option maxRecDepth 100000 in
theorem kb3 (w : World) (ho : Ord w) : Calls Tryd.prog 11 #[.slice (some ⟨w.heap.size, 0, none⟩) 6 6, .int .i64 0] (w.alloc (.cells #[.int .u8 1, .int .u8 1, .int .u8 0, .int .u8 254, .int .u8 255, .int .u8 97] 5)) (FlowPost w ([], 0, 7)) :=
  litBlocks w ho [1, 1, 0, 254, 255, 97] (by decide) 6 rfl _ rfl 0 0 (by decide) (by decide) (by decide) (by decide) _ (by decide +kernel)
set_option maxRecDepth 100000 in
theorem kz4 (w : World) (ho : Ord w) : Calls Tryd.prog 12 #[.slice (some ⟨w.heap.size, 0, none⟩) 2 2, .int .i64 9] (w.alloc (.cells #[.int .u8 120, .int .u8 2] 5)) (FlowPost w ([], 0, 4)) :=
  litZlib w ho [120, 2] (by decide) 2 rfl _ rfl 9 9 (by decide) (by decide) (by decide) (by decide) _ (by decide +kernel)
set_option maxRecDepth 100000 in
theorem kz5 (w : World) (ho : Ord w) : Calls Tryd.prog 12 #[.slice (some ⟨w.heap.size, 0, none⟩) 12 12, .int .i64 9] (w.alloc (.cells #[.int .u8 120, .int .u8 1, .int .u8 1, .int .u8 1, .int .u8 0, .int .u8 254, .int .u8 255, .int .u8 97, .int .u8 0, .int .u8 0, .int .u8 0, .int .u8 0] 5)) (FlowPost w ([], 0, 10)) :=
  litZlib w ho [120, 1, 1, 1, 0, 254, 255, 97, 0, 0, 0, 0] (by decide) 12 rfl _ rfl 9 9 (by decide) (by decide) (by decide) (by decide) _ (by decide +kernel)
set_option maxRecDepth 100000 in
theorem kb6 (w : World) (ho : Ord w) : Calls Tryd.prog 11 #[.slice (some ⟨w.heap.size, 0, none⟩) 3 3, .int .i64 9] (w.alloc (.cells #[.int .u8 75, .int .u8 4, .int .u8 0] 5)) (FlowPost w ([97], 3, 0)) :=
  litBlocks w ho [75, 4, 0] (by decide) 3 rfl _ rfl 9 9 (by decide) (by decide) (by decide) (by decide) _ (by decide +kernel)
theorem kb2 (w : World) (ho : Ord w) : Calls Tryd.prog 11 #[.slice none 0 0, .int .i64 9] w (FlowPost w ([], 0, 2)) :=
  (show blocksS [] 9 = ([], 0, 2) from rfl) ▸ inBlocks none 0 0 9 9 [] w (Byt.none_ _ _) ho (by omega) (by omega) (by decide) (by decide)
set_option maxRecDepth 100000 in
set_option maxHeartbeats 2000000 in
theorem known_walk (w : World) (ho : Ord w) :
    Calls Tryd.prog 3 #[] w fun e w' => e = .returned (.bool true) ∧ Below w.heap.size w w' := by
  have HAW := Lib.hid (awake_any w ho)
  have HO := Lib.hid (fun W (hW : Below w.heap.size w W) => ho.below hW (Nat.le_refl _))
  have H1 := Lib.hid kb1
  have H2 := Lib.hid kb2
  have H3 := Lib.hid kb3
  have H4 := Lib.hid kz4
  have H5 := Lib.hid kz5
  have H6 := Lib.hid kb6
  go_enter Tryd.func3, Tryd.ntmps3
  go_wp2_with (first
    | (go_at_call 10; refine HAW.out.mono ?_; rintro e w1 ⟨rfl, q1⟩; have Q1 := Lib.hid q1; clear q1)
    | (go_at_call 11; (with_reducible refine (H1.out w1 (HO.out _ Q1.out)).mono ?_); rintro e w2 ⟨A2, c2, rfl, _, _, q2⟩; have Q2 := Lib.hid (Q1.out.trans (q2.mono Q1.out.size)); clear q2)
    | (go_at_call 11; (with_reducible refine (H2.out w2 (HO.out _ Q2.out)).mono ?_); rintro e w3 ⟨A3, c3, rfl, _, _, q3⟩; have Q3 := Lib.hid (Q2.out.trans (q3.mono Q2.out.size)); clear q3)
    | (go_at_call 11; (with_reducible refine (H3.out w3 (HO.out _ Q3.out)).mono ?_); rintro e w4 ⟨A4, c4, rfl, _, _, q4⟩; have Q4 := Lib.hid (Q3.out.trans (q4.mono Q3.out.size)); clear q4)
    | (go_at_call 12; (with_reducible refine (H4.out w4 (HO.out _ Q4.out)).mono ?_); rintro e w5 ⟨A5, c5, rfl, _, _, q5⟩; have Q5 := Lib.hid (Q4.out.trans (q5.mono Q4.out.size)); clear q5)
    | (go_at_call 12; (with_reducible refine (H5.out w5 (HO.out _ Q5.out)).mono ?_); rintro e w6 ⟨A6, c6, rfl, _, _, q6⟩; have Q6 := Lib.hid (Q5.out.trans (q6.mono Q5.out.size)); clear q6)
    | (go_at_call 11; (with_reducible refine (H6.out w6 (HO.out _ Q6.out)).mono ?_); rintro e w7 ⟨A7, c7, rfl, y7, _, q7⟩; have hcv := str_of w7 _ A7 1 c7 [97] y7 (by omega); rw [show strOfNums [97] = ⟨#[97]⟩ from rfl] at hcv; have Q7 := Lib.hid (Q6.out.trans (q7.mono Q6.out.size)); clear q7 y7))
  go_ret
  exact ⟨rfl, Q7.out⟩

set_option maxRecDepth 100000 in
theorem known_lifted (os : Os) (started : os.Started) (H : Type) (enc : TypeId × Value → H) :
    ReturnsInHanded {} Tryd.checked os 3 .any (fun w args => (Rows.inflateKnownSpec.pre enc Tryd.prog Tryd.f3 Rows.inflateKnownRow.domain false w args ∧ laidMetH Tryd.prog Rows.inflateKnownRow.laid w) ∧ sizedMet enc Tryd.prog Tryd.f3 (OpenSpec.ofChange Rows.inflateKnownSpec) false w args) (Rows.inflateKnownSpec.post enc Tryd.prog Tryd.f3 false true false false) := by
  refine returnsInHanded_of_change_and (C := Tryd.checked) (X := fun w _ => laidMetH Tryd.prog Rows.inflateKnownRow.laid w) (fun _ _ _ hh h => h.of_heap hh) own started (by kernel_rfl) Tryd.func3
    (ChangeSpec.witness_shaped (enc := enc) (C := Tryd.checked) (os := os) (X := fun w _ => laidMetH Tryd.prog Rows.inflateKnownRow.laid w) false (World.laidAll Tryd.prog os Rows.inflateKnownRow.laid) #[] 8 (World.laidAll_os _ _ _)
      (World.shaped_of_ZipB (by kernel_rfl) (by kernel_rfl)) (by kernel_rfl) (by kernel_rfl) (by kernel_rfl)
      (by rw [MakeChecks.laidMetH_plain _ _ _ (by kernel_rfl)]; exact laidMet_laidAll _ (by kernel_rfl) (by kernel_rfl))) ?_
  intro W base args ds gs before hval0 hW hcnd _ hL _
  have hord : Ord W := ord_of_laid hL
  clear hL
  have hval : ∀ (j : Nat) t v, Tryd.f3.params[j]? = some t → args[j]? = some v → Value.okWide Tryd.prog W .any base t v := hval0
  have hW' := hW
  obtain ⟨p, q, hA0, hV, rfl, hfz, hnd⟩ := hW
  have hA : DataW.TrodAll enc Tryd.prog W 0 (fun _ => true) true Tryd.f3.params.toList args.toList ds p := hA0
  rw [Tryd.params3] at hA hval
  obtain ⟨rfl, rfl, rfl⟩ := trodAll_none hA
  obtain ⟨rfl, rfl⟩ := trodVars_none hV
  have hmx : maxLen = 9223372036854775807 := by decide
  clear hA0 hval0
  simp only [List.append_nil] at hW'
  refine (known_walk W hord).mono fun e W' ⟨he, bel⟩ => ?_
  subst he
  exact ⟨_, rfl, _, _, _, [], [], [], hW', trodAll_mk1 (shut_bool Tryd.underlying4 _), trodAll_mk0, rfl, bel.frame _, fun h => by cases h⟩

/-- InflateKnown: it answers true. -/
theorem known_holds : Rows.InflateKnownSaid :=
  OpenClaim.holds_of_wide 3 Tryd.f3 rfl rfl rfl rfl rfl rfl rfl ⟨rfl, rfl, rfl, rfl, rfl⟩ rfl rfl rfl rfl rfl (by kernel_rfl) Tryd.func3 (by kernel_rfl)
    (of_decide_eq_true (by kernel_rfl)) (by unfold Func.isWrapper; first | (rw [if_pos (by decide +kernel)]; kernel_rfl) | (rw [if_neg (by decide +kernel)]; exact ⟨rfl, rfl⟩))
    (fun os started H enc _ => known_lifted os started H enc)
/-- The card of InflateKnown: what its row lists is tied to the program's text. -/
theorem known_card : Rows.InflateKnownCardSaid :=
  Claim7.holds_tied_plain_at .later [] [.data] true Rows.inflateKnownCard.stood.harness false known_holds (fun _ h => by cases h) (by kernel_rfl) (fun _ h => by cases h) inflateKnown_row_tie rfl ⟨rfl, rfl⟩ (by kernel_rfl) rfl
    (fun f fn hf hfn => by
      obtain rfl : f = 3 := Option.some.inj ((show Tryd.prog.funcNamed "pressmark/pressmarklaw4.InflateKnown" = some 3 by kernel_rfl).symm.trans hf) |>.symm
      obtain rfl : fn = Tryd.f3 := (Option.some.inj (Tryd.func3.symm.trans hfn)).symm
      exact ⟨by kernel_rfl, fun j t ht => by
        rw [Tryd.params3] at ht
        simp at ht⟩)
    (by kernel_rfl)
#print axioms known_card
end Go.Proofs.YtgglgpgieeibnaaDoor
