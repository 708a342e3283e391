/- PredictKnown: chapter 9's example, and what is refused. No input, no condition. -/
import Derived.Test.YtagkjndiifcekaaLaw9Do
namespace Go.Proofs.Ytagkjndiifcekaa
open Go.ChangeShapes Go.WideShapes Go.ChangeAt Go.RowKit Go.Deep
set_option linter.unusedVariables false
set_option maxRecDepth 100000

set_option maxHeartbeats 4000000 in
theorem known_walk (w : World) : Calls Try.prog 3 #[] w fun e w' => e = .returned (.bool true) ∧ Below w.heap.size w w' := by
  have HAW := Lib.hid (awake_any w)
  have H1 : Hid (∀ (W : World), Calls Try.prog 9 #[shV 0 0 0, .slice none 0 0] W fun r w' => ∃ A c, r = .returned (.tuple #[.slice A 0 c, .int .i64 1]) ∧ Byt w' w'.heap.size A 0 c [] ∧ Below W.heap.size W w') := Lib.hid fun W =>
    (pDecode 0 0 0 none 0 0 [] W (Byt.none_ _ _) (by omega) ([], 1) (by decide +kernel)).mono fun r w' h => h.at9 rfl
  have H2 : Hid (∀ (W : World) (b : Nat), b = W.heap.size → Calls Try.prog 9 #[shV 12 1 2, .slice (some ⟨b, 0, none⟩) 3 3] (W.alloc (.cells #[.int .u8 5, .int .u8 1, .int .u8 2] 5)) fun r w' => ∃ A c, r = .returned (.tuple #[.slice A 0 c, .int .i64 4]) ∧ Byt w' w'.heap.size A 0 c [] ∧ Below W.heap.size W w') := Lib.hid fun W b e => by
    subst e
    refine (pDecode 12 1 2 _ 3 3 [5, 1, 2] (W.alloc (.cells #[.int .u8 5, .int .u8 1, .int .u8 2] 5)) ((byt_lit W (0, 0) [5, 1, 2] (by decide) 3 rfl _ rfl).more (by rw [World.size_alloc]; exact Nat.le_refl _)) (by omega) ([], 4) (by decide +kernel)).mono ?_
    intro r w' h
    obtain ⟨A, c, rfl, hy, hb⟩ := h.at9 (n := 0) rfl
    exact ⟨A, c, rfl, hy, ((Below.refl _ _).alloc (Nat.le_refl _) _).trans (hb.mono (by simp))⟩
  have H3 : Hid (∀ (W : World) (b : Nat), b = W.heap.size → Calls Try.prog 10 #[shV 2 3 2, .slice (some ⟨b, 0, none⟩) 3 3] (W.alloc (.cells #[.int .u8 5, .int .u8 1, .int .u8 2] 5)) fun r w' => ∃ A c, r = .returned (.tuple #[.slice A 0 c, .int .i64 4]) ∧ Byt w' w'.heap.size A 0 c [] ∧ Below W.heap.size W w') := Lib.hid fun W b e => by
    subst e
    refine (pEncode 2 3 2 _ 3 3 [5, 1, 2] (W.alloc (.cells #[.int .u8 5, .int .u8 1, .int .u8 2] 5)) ((byt_lit W (0, 0) [5, 1, 2] (by decide) 3 rfl _ rfl).more (by rw [World.size_alloc]; exact Nat.le_refl _)) (by omega) ([], 4) (by decide +kernel)).mono ?_
    intro r w' h
    obtain ⟨A, c, rfl, hy, hb⟩ := h.at9 (n := 0) rfl
    exact ⟨A, c, rfl, hy, ((Below.refl _ _).alloc (Nat.le_refl _) _).trans (hb.mono (by simp))⟩
  have H4 : Hid (∀ (W : World) (b : Nat), b = W.heap.size → Calls Try.prog 9 #[shV 2 1 3, .slice (some ⟨b, 0, none⟩) 3 3] (W.alloc (.cells #[.int .u8 1, .int .u8 1, .int .u8 255] 5)) fun r w' => ∃ A c, r = .returned (.tuple #[.slice A 3 c, .int .i64 0]) ∧ Byt w' w'.heap.size A 3 c [1, 2, 1] ∧ Below W.heap.size W w') := Lib.hid fun W b e => by
    subst e
    refine (pDecode 2 1 3 _ 3 3 [1, 1, 255] (W.alloc (.cells #[.int .u8 1, .int .u8 1, .int .u8 255] 5)) ((byt_lit W (0, 0) [1, 1, 255] (by decide) 3 rfl _ rfl).more (by rw [World.size_alloc]; exact Nat.le_refl _)) (by omega) ([1, 2, 1], 0) (by decide +kernel)).mono ?_
    intro r w' h
    obtain ⟨A, c, rfl, hy, hb⟩ := h.at9 (n := 3) rfl
    exact ⟨A, c, rfl, hy, ((Below.refl _ _).alloc (Nat.le_refl _) _).trans (hb.mono (by simp))⟩
  have HMY : Hid (∀ (W : World), Calls Try.prog 12 #[shV 1 1 1] W fun e w' => e = .returned (.bool true) ∧ Below W.heap.size W w') := Lib.hid fun W => (pMay 1 1 1 W).mono fun r w' h => by rw [show mayZ 1 1 1 = true by decide +kernel] at h; exact h
  go_enter Try.func3, Try.ntmps3
  go_wp2_with (first
    | (go_at_call 8; refine HAW.out.mono ?_; (rintro r w0 ⟨rfl, hb0⟩); have HB0 := Lib.hid hb0; clear hb0)
    | (go_at_call 9; (with_reducible refine (H1.out w0).mono ?_); (rintro r w1 ⟨A1, c1, rfl, hy1, hb1⟩); have HB1 := Lib.hid (HB0.out.trans (hb1.mono HB0.out.size)); clear hb1 hy1)
    | (go_at_call 9; (with_reducible refine (H2.out w1 _ rfl).mono ?_); (rintro r w2 ⟨A2, c2, rfl, hy2, hb2⟩); have HB2 := Lib.hid (HB1.out.trans (hb2.mono HB1.out.size)); clear hb2 hy2)
    | (go_at_call 10; (with_reducible refine (H3.out w2 _ rfl).mono ?_); (rintro r w3 ⟨A3, c3, rfl, hy3, hb3⟩); have HB3 := Lib.hid (HB2.out.trans (hb3.mono HB2.out.size)); clear hb3 hy3)
    | (go_at_call 9; (with_reducible refine (H4.out w3 _ rfl).mono ?_); (rintro r w5 ⟨A5, c5, rfl, hy5, hb5⟩); have HS := Lib.hid (refSame_yes A5 (some ⟨w5.heap.size, 0, none⟩) 3 c5 _ 3 _ [1, 2, 1] (w5.alloc (.cells #[.int .u8 1, .int .u8 2, .int .u8 1] 5)) (hy5.alloc (Nat.le_refl _) _) (byt_lit w5 (0, 0) [1, 2, 1] (by decide) 3 rfl _ rfl) (by omega)); have HB5 := Lib.hid (HB3.out.trans (hb5.mono HB3.out.size)); clear hy5 hb5)
    | (go_at_call 11; refine HS.out.mono ?_; (rintro r w6 ⟨rfl, q, rfl⟩); have HB6 := Lib.hid (below_drewN (HB5.out.alloc HB5.out.size (.cells #[.int .u8 1, .int .u8 2, .int .u8 1] 5)) q))
    | (go_at_call 12; refine (HMY.out _).mono ?_; (rintro r w7 ⟨rfl, hb7⟩); have HB7 := Lib.hid (HB6.out.trans (hb7.mono HB6.out.size)); clear hb7))
  go_ret
  exact ⟨rfl, HB7.out⟩
set_option maxRecDepth 100000 in
theorem known_lifted (os : Os) (started : os.Started) (H : Type) (enc : TypeId × Value → H) :
    ReturnsInHanded {} Try.checked os 3 .any (Rows.predictKnownSpec.pre6 enc Try.prog Try.f3 Rows.predictKnownRow.domain false) (Rows.predictKnownSpec.post enc Try.prog Try.f3 false true false false) := by
  refine returnsInHanded_of_change (C := Try.checked) own started (by kernel_rfl) Try.func3
    (ChangeSpec.witness6 (enc := enc) (C := Try.checked) false ⟨#[], #[], []⟩ 8 (by kernel_rfl) (by kernel_rfl) (by kernel_rfl) (by kernel_rfl)) ?_
  intro W base args ds gs before hval0 hW hcnd _
  have hval : ∀ (j : Nat) t v, Try.f3.params[j]? = some t → args[j]? = some v → Value.okWide Try.prog W .any base t v := hval0
  have hW' := hW
  obtain ⟨p, q, hA0, hV, rfl, hfz, hnd⟩ := hW
  have hA : DataW.TrodAll enc Try.prog W 0 (fun _ => true) true Try.f3.params.toList args.toList ds p := hA0
  rw [Try.params3] at hA hval
  obtain ⟨rfl, rfl, rfl⟩ := trodAll_none hA
  obtain ⟨rfl, rfl⟩ := trodVars_none hV
  have hmx : maxLen = 9223372036854775807 := by decide
  clear hA0 hval0
  simp only [List.append_nil] at hW'
  refine (known_walk  W ).mono fun e W' ⟨he, bel⟩ => ?_
  subst he
  exact ⟨_, rfl, _, _, _, [], [], [], hW', trodAll_mk1 (shut_bool Try.underlying4 _), trodAll_mk0, rfl, bel.frame _, fun h => by cases h⟩

/-- PredictKnown: it answers true. -/
theorem known_holds : Rows.PredictKnownSaid :=
  OpenClaim.holds_of_wide 3 Try.f3 rfl rfl rfl rfl rfl rfl rfl ⟨rfl, rfl, rfl, rfl, rfl⟩ rfl rfl rfl rfl rfl (by kernel_rfl) Try.func3 (by kernel_rfl)
    (of_decide_eq_true (by kernel_rfl)) (by unfold Func.isWrapper; first | (rw [if_pos (by decide +kernel)]; kernel_rfl) | (rw [if_neg (by decide +kernel)]; exact ⟨rfl, rfl⟩))
    (fun os started H enc _ => known_lifted os started H enc)
#print axioms known_holds

end Go.Proofs.Ytagkjndiifcekaa
