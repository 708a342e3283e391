/- AsciiKnown: chapter 6's examples, and what is refused. No input, no condition. -/
import Derived.Test.YtnonldlddgankaaLaw6Do
namespace Go.Proofs.Ytnonldlddgankaa
open Go.ChangeShapes Go.WideShapes Go.ChangeAt Go.RowKit Go.Deep
set_option linter.unusedVariables false
set_option maxRecDepth 100000

theorem str_of6 (w : World) (B : Nat) (A : Option Addr) (n c : Nat) (zs : List Int) (h : Byt w B A n c zs) (hn : 0 < n) : (convert 23 9 (.slice A n c)).run Try.prog w = .ok (.string (strOfNums zs)) w := by
  obtain ⟨b, o, rfl, _, hc⟩ := h.cell hn
  exact run_convert_bytes_arg (P := Try.prog) w 23 5 Try.underlying23 Try.underlying5 b o n c zs h.len hc 9 Try.underlying9
set_option maxHeartbeats 4000000 in
theorem known_walk (w : World) : Calls Try.prog 3 #[] w fun e w' => e = .returned (.bool true) ∧ Below w.heap.size w w' := by
  have kc := fun (w : World) (C : Array Value) (n c : Nat) => Lib.run_convert_bytes_const (P := Try.prog) w 23 5 C n c Try.underlying23 Try.underlying5
  have HAW := Lib.hid (awake_any w)
  have H1 : Hid (∀ (W : World) (b : Nat), b = W.heap.size → Calls Try.prog 9 #[.slice (some ⟨b, 0, none⟩) 6 6, .int .i64 9] (W.alloc (.cells #[.int .u8 52, .int .u8 32, .int .u8 49, .int .u8 32, .int .u8 52, .int .u8 62] 5 (6, 7))) fun r w' => ∃ A c, r = .returned (.tuple #[.slice A 2 c, .int .i64 0]) ∧ Byt w' w'.heap.size A 2 c [65, 64] ∧ Below W.heap.size W w') := Lib.hid fun W b e => by
    subst e
    refine (pUnhex _ 6 6 9 [52, 32, 49, 32, 52, 62] (W.alloc (.cells #[.int .u8 52, .int .u8 32, .int .u8 49, .int .u8 32, .int .u8 52, .int .u8 62] 5 (6, 7))) ((byt_lit W (6, 7) [52, 32, 49, 32, 52, 62] (by decide) 6 rfl _ rfl).more (by rw [World.size_alloc]; exact Nat.le_refl _)) (by omega) (by omega) (by omega) ([65, 64], 0) (by decide +kernel)).mono ?_
    rintro r w' ⟨A, c, rfl, hy, hb⟩
    exact ⟨A, c, rfl, hy, ((Below.refl _ _).alloc (Nat.le_refl _) _).trans (hb.mono (by simp))⟩
  have H2 : Hid (∀ (W : World) (b : Nat), b = W.heap.size → Calls Try.prog 9 #[.slice (some ⟨b, 0, none⟩) 2 2, .int .i64 9] (W.alloc (.cells #[.int .u8 52, .int .u8 49] 5 (2, 3))) fun r w' => ∃ A c, r = .returned (.tuple #[.slice A 0 c, .int .i64 2]) ∧ Byt w' w'.heap.size A 0 c [] ∧ Below W.heap.size W w') := Lib.hid fun W b e => by
    subst e
    refine (pUnhex _ 2 2 9 [52, 49] (W.alloc (.cells #[.int .u8 52, .int .u8 49] 5 (2, 3))) ((byt_lit W (2, 3) [52, 49] (by decide) 2 rfl _ rfl).more (by rw [World.size_alloc]; exact Nat.le_refl _)) (by omega) (by omega) (by omega) ([], 2) (by decide +kernel)).mono ?_
    rintro r w' ⟨A, c, rfl, hy, hb⟩
    exact ⟨A, c, rfl, hy, ((Below.refl _ _).alloc (Nat.le_refl _) _).trans (hb.mono (by simp))⟩
  have H3 : Hid (∀ (W : World) (b : Nat), b = W.heap.size → Calls Try.prog 10 #[.slice (some ⟨b, 0, none⟩) 3 3, .int .i64 9] (W.alloc (.cells #[.int .u8 33, .int .u8 126, .int .u8 62] 5 (3, 4))) fun r w' => ∃ A c, r = .returned (.tuple #[.slice A 0 c, .int .i64 4]) ∧ Byt w' w'.heap.size A 0 c [] ∧ Below W.heap.size W w') := Lib.hid fun W b e => by
    subst e
    refine (pUnbase85 _ 3 3 9 [33, 126, 62] (W.alloc (.cells #[.int .u8 33, .int .u8 126, .int .u8 62] 5 (3, 4))) ((byt_lit W (3, 4) [33, 126, 62] (by decide) 3 rfl _ rfl).more (by rw [World.size_alloc]; exact Nat.le_refl _)) (by omega) (by omega) (by omega) ([], 4) (by decide +kernel)).mono ?_
    rintro r w' ⟨A, c, rfl, hy, hb⟩
    exact ⟨A, c, rfl, hy, ((Below.refl _ _).alloc (Nat.le_refl _) _).trans (hb.mono (by simp))⟩
  have H4 : Hid (∀ (W : World) (b : Nat), b = W.heap.size → Calls Try.prog 10 #[.slice (some ⟨b, 0, none⟩) 7 7, .int .i64 9] (W.alloc (.cells #[.int .u8 117, .int .u8 117, .int .u8 117, .int .u8 117, .int .u8 117, .int .u8 126, .int .u8 62] 5 (7, 8))) fun r w' => ∃ A c, r = .returned (.tuple #[.slice A 0 c, .int .i64 4]) ∧ Byt w' w'.heap.size A 0 c [] ∧ Below W.heap.size W w') := Lib.hid fun W b e => by
    subst e
    refine (pUnbase85 _ 7 7 9 [117, 117, 117, 117, 117, 126, 62] (W.alloc (.cells #[.int .u8 117, .int .u8 117, .int .u8 117, .int .u8 117, .int .u8 117, .int .u8 126, .int .u8 62] 5 (7, 8))) ((byt_lit W (7, 8) [117, 117, 117, 117, 117, 126, 62] (by decide) 7 rfl _ rfl).more (by rw [World.size_alloc]; exact Nat.le_refl _)) (by omega) (by omega) (by omega) ([], 4) (by decide +kernel)).mono ?_
    rintro r w' ⟨A, c, rfl, hy, hb⟩
    exact ⟨A, c, rfl, hy, ((Below.refl _ _).alloc (Nat.le_refl _) _).trans (hb.mono (by simp))⟩
  have H5 : Hid (∀ (W : World) (b : Nat), b = W.heap.size → Calls Try.prog 12 #[.slice (some ⟨b, 0, none⟩) 2 2] (W.alloc (.cells #[.int .u8 1, .int .u8 171] 5)) fun r w' => ∃ A c, r = .returned (.slice A 5 c) ∧ Byt w' w'.heap.size A 5 c [48, 49, 97, 98, 62] ∧ Below W.heap.size W w') := Lib.hid fun W b e => by
    subst e
    have h := pHex _ 2 2 [1, 171] (W.alloc (.cells #[.int .u8 1, .int .u8 171] 5)) ((byt_lit W (0, 0) [1, 171] (by decide) 2 rfl _ rfl).more (by rw [World.size_alloc]; exact Nat.le_refl _)) (by omega)
    rw [show hexS [1, 171] = [48, 49, 97, 98, 62] by decide +kernel] at h
    refine h.mono ?_
    rintro r w' ⟨v, rfl, hm, hb⟩
    obtain ⟨A, c, rfl, hy⟩ := hm.byt
    exact ⟨A, c, rfl, hy, ((Below.refl _ _).alloc (Nat.le_refl _) _).trans (hb.mono (by simp))⟩
  have H6 : Hid (∀ (W : World) (b : Nat), b = W.heap.size → Calls Try.prog 13 #[.slice (some ⟨b, 0, none⟩) 5 5] (W.alloc (.cells #[.int .u8 0, .int .u8 0, .int .u8 0, .int .u8 0, .int .u8 1] 5)) fun r w' => ∃ A c, r = .returned (.slice A 5 c) ∧ Byt w' w'.heap.size A 5 c [122, 33, 60, 126, 62] ∧ Below W.heap.size W w') := Lib.hid fun W b e => by
    subst e
    have h := pBase85 _ 5 5 [0, 0, 0, 0, 1] (W.alloc (.cells #[.int .u8 0, .int .u8 0, .int .u8 0, .int .u8 0, .int .u8 1] 5)) ((byt_lit W (0, 0) [0, 0, 0, 0, 1] (by decide) 5 rfl _ rfl).more (by rw [World.size_alloc]; exact Nat.le_refl _)) (by omega)
    rw [show b85S [0, 0, 0, 0, 1] = [122, 33, 60, 126, 62] by decide +kernel] at h
    refine h.mono ?_
    rintro r w' ⟨v, rfl, hm, hb⟩
    obtain ⟨A, c, rfl, hy⟩ := hm.byt
    exact ⟨A, c, rfl, hy, ((Below.refl _ _).alloc (Nat.le_refl _) _).trans (hb.mono (by simp))⟩
  have HW := Lib.hid (fun W => (show whB 11 = false from rfl) ▸ pwhite 11 W)
  have HD := Lib.hid (fun W => (show dgZ 103 = -1 from rfl) ▸ pdigit 103 W)
  go_enter Try.func3, Try.ntmps3
  go_wp2_with (first
    | (go_at_call 8; refine HAW.out.mono ?_; (rintro r w0 ⟨rfl, hb0⟩); have HB0 := Lib.hid hb0; clear hb0)
    | (go_at_call 9; (with_reducible refine (H1.out w0 _ rfl).mono ?_); (rintro r w1 ⟨A1, c1, rfl, hy1, hb1⟩); have HY1 := Lib.hid hy1; have HB1 := Lib.hid (HB0.out.trans (hb1.mono HB0.out.size)); clear hy1 hb1)
    | (go_at_call 9; (with_reducible refine (H2.out w1 _ rfl).mono ?_); (rintro r w2 ⟨A2, c2, rfl, _, hb2⟩); have HY2 := Lib.hid ((HY1.out.below hb2 (Nat.le_refl _)).more hb2.size); have HB2 := Lib.hid (HB1.out.trans (hb2.mono HB1.out.size)); clear hb2)
    | (go_at_call 10; (with_reducible refine (H3.out w2 _ rfl).mono ?_); (rintro r w3 ⟨A3, c3, rfl, _, hb3⟩); have HY3 := Lib.hid ((HY2.out.below hb3 (Nat.le_refl _)).more hb3.size); have HB3 := Lib.hid (HB2.out.trans (hb3.mono HB2.out.size)); clear hb3)
    | (go_at_call 10; (with_reducible refine (H4.out w3 _ rfl).mono ?_); (rintro r w4 ⟨A4, c4, rfl, _, hb4⟩); have hy4 := (HY3.out.below hb4 (Nat.le_refl _)).more hb4.size; have HE4 := Lib.hid (refSame_yes A1 (some ⟨w4.heap.size, 0, none⟩) 2 c1 _ 2 _ [65, 64] (w4.alloc (.cells #[.int .u8 65, .int .u8 64] 5)) (hy4.alloc (Nat.le_refl _) _) (byt_two w4 65 64 (by omega) (by omega)) (by omega)); have HB4 := Lib.hid (HB3.out.trans (hb4.mono HB3.out.size)); clear hb4 hy4)
    | (go_at_call 11; with_reducible refine HE4.out.mono ?_; (rintro r w5 ⟨rfl, q5, rfl⟩); have HB5 := Lib.hid (below_drewN (HB4.out.alloc HB4.out.size (.cells #[.int .u8 65, .int .u8 64] 5)) q5))
    | (go_at_call 12; refine (H5.out ((w4.alloc (.cells #[.int .u8 65, .int .u8 64] 5)).drewN q5) _ (World.size_alloc w4 _).symm).mono ?_; (rintro r w6 ⟨A6, c6, rfl, hy6, hb6⟩); have hcv := str_of6 w6 _ A6 5 c6 _ hy6 (by omega); rw [show strOfNums [48, 49, 97, 98, 62] = ⟨#[48, 49, 97, 98, 62]⟩ from rfl] at hcv; have HB6 := Lib.hid (HB5.out.trans (hb6.mono HB5.out.size)); clear hb6 hy6)
    | (go_at_call 13; refine (H6.out w6 _ rfl).mono ?_; (rintro r w7 ⟨A7, c7, rfl, hy7, hb7⟩); have hcv2 := str_of6 w7 _ A7 5 c7 _ hy7 (by omega); rw [show strOfNums [122, 33, 60, 126, 62] = ⟨#[122, 33, 60, 126, 62]⟩ from rfl] at hcv2; have HB7 := Lib.hid (HB6.out.trans (hb7.mono HB6.out.size)); clear hb7 hy7)
    | (go_at_call 14; refine (HW.out _).mono ?_; (rintro r w8 ⟨rfl, rfl⟩))
    | (go_at_call 15; refine (HD.out _).mono ?_; (rintro r w9 ⟨rfl, rfl⟩)))
  go_ret
  exact ⟨rfl, HB7.out⟩
set_option maxRecDepth 100000 in
theorem known_lifted (os : Os) (started : os.Started) (H : Type) (enc : TypeId × Value → H) :
    ReturnsInHanded {} Try.checked os 3 .any (Rows.asciiKnownSpec.pre6 enc Try.prog Try.f3 Rows.asciiKnownRow.domain false) (Rows.asciiKnownSpec.post enc Try.prog Try.f3 false true false false) := by
  refine returnsInHanded_of_change (C := Try.checked) own started (by kernel_rfl) Try.func3
    (ChangeSpec.witness6 (enc := enc) (C := Try.checked) false ⟨#[], #[], []⟩ 8 (by kernel_rfl) (by kernel_rfl) (by kernel_rfl) (by kernel_rfl)) ?_
  intro W base args ds gs before hval0 hW hcnd _
  have hval : ∀ (j : Nat) t v, Try.f3.params[j]? = some t → args[j]? = some v → Value.okWide Try.prog W .any base t v := hval0
  have hW' := hW
  obtain ⟨p, q, hA0, hV, rfl, hfz, hnd⟩ := hW
  have hA : DataW.TrodAll enc Try.prog W 0 (fun _ => true) true Try.f3.params.toList args.toList ds p := hA0
  rw [Try.params3] at hA hval
  obtain ⟨rfl, rfl, rfl⟩ := trodAll_none hA
  obtain ⟨rfl, rfl⟩ := trodVars_none hV
  have hmx : maxLen = 9223372036854775807 := by decide
  clear hA0 hval0
  simp only [List.append_nil] at hW'
  refine (known_walk  W ).mono fun e W' ⟨he, bel⟩ => ?_
  subst he
  exact ⟨_, rfl, _, _, _, [], [], [], hW', trodAll_mk1 (shut_bool Try.underlying4 _), trodAll_mk0, rfl, bel.frame _, fun h => by cases h⟩

/-- AsciiKnown: it answers true. -/
theorem known_holds : Rows.AsciiKnownSaid :=
  OpenClaim.holds_of_wide 3 Try.f3 rfl rfl rfl rfl rfl rfl rfl ⟨rfl, rfl, rfl, rfl, rfl⟩ rfl rfl rfl rfl rfl (by kernel_rfl) Try.func3 (by kernel_rfl)
    (of_decide_eq_true (by kernel_rfl)) (by unfold Func.isWrapper; first | (rw [if_pos (by decide +kernel)]; kernel_rfl) | (rw [if_neg (by decide +kernel)]; exact ⟨rfl, rfl⟩))
    (fun os started H enc _ => known_lifted os started H enc)
#print axioms known_holds

end Go.Proofs.Ytnonldlddgankaa
