/- DeflateKnown: chapter 5's example, and nothing. -/
import Derived.Test.YtkbgneadhbpcaaaLaw5Do
namespace Go.Proofs.Ytkbgneadhbpcaaa
open Go.ChangeShapes Go.WideShapes Go.ChangeAt Go.RowKit Go.Deep
set_option linter.unusedVariables false
set_option maxRecDepth 100000

theorem pw_row (w : World) : PW (w.alloc (.cells Try.zeroCells26 26)) w.heap.size 26 [] [] := by
  refine ⟨⟨.pointer none, List.replicate 256 0, ⟨?_, by simp, ⟨rfl, rfl⟩, rfl, rfl, fun b hb => (by cases hb), fun z hz => (by cases hz)⟩⟩, B01.nil⟩
  rw [heap_alloc_new w]
  rfl
set_option maxHeartbeats 4000000 in
theorem known_walk (w : World) :
    Calls Try.prog 3 #[] w fun e w' => e = .returned (.bool true) ∧ Below w.heap.size w w' := by
  have kc := fun (w : World) (C : Array Value) (n c : Nat) => Lib.run_convert_bytes_const (P := Try.prog) w 29 5 C n c Try.underlying29 Try.underlying5
  have kc2 : ∀ (w : World) (o : Obj) (q : Nat) (C : Array Value) (n c : Nat), Sem.run Try.prog (convert 29 29 (.slice (some ⟨w.heap.size + 1, 0, none⟩) n c)) (((w.alloc o).drewN q).alloc (.cells C 5)) = .ok (.slice (some ⟨w.heap.size + 1, 0, none⟩) n c) (((w.alloc o).drewN q).alloc (.cells C 5 (C.size, C.size + 1))) := fun w o q C n c => by
    have h := kc ((w.alloc o).drewN q) C n c
    have e : ((w.alloc o).drewN q).heap.size = w.heap.size + 1 := World.size_alloc w o
    rw [e] at h
    exact h
  have HAW := Lib.hid (awake_any w)
  have HP1 : Hid (∀ W g bs, PW W g 26 bs [] → Calls Try.prog 10 #[.pointer (some ⟨g, 0, none⟩), .int .i64 5, .int .i64 3] W (Wrote g 26 bs [1, 0, 1] W)) := Lib.hid fun W g bs h => by
    have := put_in5 g _ bs [] 5 3 W h (by simp) (by omega) (by omega) (by omega) 3 rfl
    rw [show [] ++ lowb 5 3 = [1, 0, 1] by decide] at this
    exact this
  have HP2 : Hid (∀ W g bs, PW W g 26 bs [1, 0, 1] → Calls Try.prog 11 #[.pointer (some ⟨g, 0, none⟩)] W (Wrote g 26 bs [1, 0, 1, 0, 0, 0, 0, 0] W)) := Lib.hid fun W g bs h => by
    have := palign5 g _ bs [1, 0, 1] W h (by simp)
    rw [show padB [1, 0, 1] = [1, 0, 1, 0, 0, 0, 0, 0] by decide] at this
    exact this
  have HP3 : Hid (∀ W g bs, PW W g 26 bs [1, 0, 1, 0, 0, 0, 0, 0] → Calls Try.prog 10 #[.pointer (some ⟨g, 0, none⟩), .int .i64 1, .int .i64 1] W (Wrote g 26 bs [1, 0, 1, 0, 0, 0, 0, 0, 1] W)) := Lib.hid fun W g bs h => by
    have := put_in5 g _ bs [1, 0, 1, 0, 0, 0, 0, 0] 1 1 W h (by simp) (by omega) (by omega) (by omega) 1 rfl
    rw [show [1, 0, 1, 0, 0, 0, 0, 0] ++ lowb 1 1 = [1, 0, 1, 0, 0, 0, 0, 0, 1] by decide] at this
    exact this
  have HP4 : Hid (∀ W g bs, PW W g 26 bs [1, 0, 1, 0, 0, 0, 0, 0, 1] → Calls Try.prog 13 #[.pointer (some ⟨g, 0, none⟩)] W fun r w' => ∃ v, r = .returned v ∧ Mine w' W.heap.size v 2 [5, 1] ∧ Below W.heap.size W w') := Lib.hid fun W g bs h => by
    have := pbytes5 g _ bs _ W h (by simp)
    rw [show pack [1, 0, 1, 0, 0, 0, 0, 0, 1] = [5, 1] by decide] at this
    exact this
  have HS : Hid (∀ W : World, Calls Try.prog 14 #[.slice none 0 0] W fun r w' => ∃ v, r = .returned v ∧ Mine w' W.heap.size v 5 [1, 0, 0, 255, 255] ∧ Below W.heap.size W w') := Lib.hid fun W => by
    have := pStored none 0 0 [] W (Byt.none_ W _) (by omega)
    rw [show joinZ (chunksS []) = [1, 0, 0, 255, 255] by decide] at this
    exact this
  have HF : Hid (∀ (W : World) (b : Nat), b = W.heap.size → Calls Try.prog 15 #[.slice (some ⟨b, 0, none⟩) 1 1] (W.alloc (.cells #[.int .u8 97] 5 (1, 2))) fun r w' => ∃ v, r = .returned v ∧ Mine w' (W.heap.size + 1) v 3 [75, 4, 0] ∧ Below (W.heap.size + 1) (W.alloc (.cells #[.int .u8 97] 5 (1, 2))) w') := Lib.hid fun W b e => by
    subst e
    have := pFixed _ 1 1 [97] (W.alloc (.cells #[.int .u8 97] 5 (1, 2))) ((byt_lit W (1, 2) [97] (by decide) 1 rfl _ rfl).more (by rw [World.size_alloc]; exact Nat.le_refl _)) (by omega)
    rw [show fixedS [97] = [75, 4, 0] by decide +kernel, World.size_alloc] at this
    exact this
  have HZ : Hid (∀ W : World, Calls Try.prog 16 #[.slice none 0 0] W fun r w' => ∃ A c, r = .returned (.slice A 8 c) ∧ Below W.heap.size W w') := Lib.hid fun W => by
    refine (pZlib none 0 0 [] W (Byt.none_ W _) (by omega)).mono ?_
    rintro r w' ⟨v, rfl, hm, hb⟩
    obtain ⟨A, c, rfl, _⟩ := hm.byt
    exact ⟨A, c, by rw [show (zlibS []).length = 8 by decide +kernel], hb⟩
  go_enter Try.func3, Try.ntmps3
  go_upto_region 7 with (first
    | (go_at_call 9; refine HAW.out.mono ?_; (rintro r w0 ⟨rfl, hb0⟩); have HW0 := Lib.hid (pw_row w0); have HB0 := Lib.hid hb0; clear hb0)
    | (go_at_call 10; (with_reducible refine (HP1.out _ _ _ HW0.out).mono ?_); (rintro r w1 ⟨rfl, bs1, hp1, ho1, _⟩); have HW1 := Lib.hid hp1; have HB1 := Lib.hid ((HB0.out.alloc HB0.out.size _).trans (ho1.belowB HB0.out.size (by simp))); clear hp1 ho1)
    | (go_at_call 11; (with_reducible refine (HP2.out _ _ _ HW1.out).mono ?_); (rintro r w2 ⟨rfl, bs2, hp2, ho2, _⟩); have HW2 := Lib.hid hp2; have HB2 := Lib.hid (HB1.out.trans (ho2.belowB HB0.out.size (Nat.le_of_lt HW1.out.lt))); clear hp2 ho2)
    | (go_at_call 10; (with_reducible refine (HP3.out _ _ _ HW2.out).mono ?_); (rintro r w3 ⟨rfl, bs3, hp3, ho3, _⟩); have HW3 := Lib.hid hp3; have HB3 := Lib.hid (HB2.out.trans (ho3.belowB HB0.out.size (Nat.le_of_lt HW2.out.lt))); clear hp3 ho3))
  go_wp2_with (first
    | (go_at_call 13; (with_reducible refine (HP4.out _ _ _ HW3.out).mono ?_); (rintro r w4 ⟨v4, rfl, hm4, hb4⟩); obtain ⟨A4, c4, rfl, hy4⟩ := hm4.byt; have HE4 := Lib.hid (refSame_yes A4 (some ⟨w4.heap.size, 0, none⟩) 2 c4 _ 2 _ [5, 1] (w4.alloc (.cells #[.int .u8 5, .int .u8 1] 5)) (hy4.alloc (Nat.le_refl _) _) (byt_lit w4 (0, 0) [5, 1] (by decide) 2 rfl _ rfl) (by omega)); have HB4 := Lib.hid (HB3.out.trans (hb4.mono HB3.out.size)); clear hm4 hb4 hy4)
    | (go_at_call 12; with_reducible refine HE4.out.mono ?_; (rintro r w5 ⟨rfl, q5, rfl⟩); have HB5 := Lib.hid (below_drewN (HB4.out.alloc HB4.out.size (.cells #[.int .u8 5, .int .u8 1] 5)) q5))
    | (go_at_call 14; refine (HS.out _).mono ?_; (rintro r w6 ⟨v6, rfl, hm6, hb6⟩); obtain ⟨A6, c6, rfl, hy6⟩ := hm6.byt; have HE6 := Lib.hid (refSame_yes A6 (some ⟨w6.heap.size, 0, none⟩) 5 c6 _ 5 _ [1, 0, 0, 255, 255] (w6.alloc (.cells #[.int .u8 1, .int .u8 0, .int .u8 0, .int .u8 255, .int .u8 255] 5)) (hy6.alloc (Nat.le_refl _) _) (byt_lit w6 (0, 0) [1, 0, 0, 255, 255] (by decide) 5 rfl _ rfl) (by omega)); have HB6 := Lib.hid (HB5.out.trans (hb6.mono HB5.out.size)); clear hm6 hb6 hy6)
    | (go_at_call 12; with_reducible refine HE6.out.mono ?_; (rintro r w7 ⟨rfl, q7, rfl⟩); have HB7 := Lib.hid (below_drewN (HB6.out.alloc HB6.out.size (.cells #[.int .u8 1, .int .u8 0, .int .u8 0, .int .u8 255, .int .u8 255] 5)) q7))
    | (go_at_call 15; refine (HF.out ((w6.alloc (.cells #[.int .u8 1, .int .u8 0, .int .u8 0, .int .u8 255, .int .u8 255] 5)).drewN q7) _ (World.size_alloc w6 _).symm).mono ?_; (rintro r w8 ⟨v8, rfl, hm8, hb8⟩); obtain ⟨A8, c8, rfl, hy8⟩ := hm8.byt; have HE8 := Lib.hid (refSame_yes A8 (some ⟨w8.heap.size, 0, none⟩) 3 c8 _ 3 _ [75, 4, 0] (w8.alloc (.cells #[.int .u8 75, .int .u8 4, .int .u8 0] 5)) (hy8.alloc (Nat.le_refl _) _) (byt_lit w8 (0, 0) [75, 4, 0] (by decide) 3 rfl _ rfl) (by omega)); have HB8 := Lib.hid ((HB7.out.alloc HB7.out.size (.cells #[.int .u8 97] 5 (1, 2))).trans (hb8.mono (Nat.le_succ_of_le HB7.out.size))); clear hm8 hb8 hy8)
    | (go_at_call 12; with_reducible refine HE8.out.mono ?_; (rintro r w9 ⟨rfl, q9, rfl⟩); have HB9 := Lib.hid (below_drewN (HB8.out.alloc HB8.out.size (.cells #[.int .u8 75, .int .u8 4, .int .u8 0] 5)) q9))
    | (go_at_call 16; refine (HZ.out _).mono ?_; (rintro r w10 ⟨A10, c10, rfl, hb10⟩); have HB10 := Lib.hid (HB9.out.trans (hb10.mono HB9.out.size)); clear hb10))
  go_ret
  exact ⟨rfl, HB10.out⟩
set_option maxRecDepth 100000 in
theorem known_lifted (os : Os) (started : os.Started) (H : Type) (enc : TypeId × Value → H) :
    ReturnsInHanded {} Try.checked os 3 .any (Rows.deflateKnownSpec.pre6 enc Try.prog Try.f3 Rows.deflateKnownRow.domain false) (Rows.deflateKnownSpec.post enc Try.prog Try.f3 false true false false) := by
  refine returnsInHanded_of_change (C := Try.checked) own started (by kernel_rfl) Try.func3
    (ChangeSpec.witness6 (enc := enc) (C := Try.checked) false ⟨#[], #[], []⟩ 8 (by kernel_rfl) (by kernel_rfl) (by kernel_rfl) (by kernel_rfl)) ?_
  intro W base args ds gs before hval0 hW hcnd _
  have hval : ∀ (j : Nat) t v, Try.f3.params[j]? = some t → args[j]? = some v → Value.okWide Try.prog W .any base t v := hval0
  have hW' := hW
  obtain ⟨p, q, hA0, hV, rfl, hfz, hnd⟩ := hW
  have hA : DataW.TrodAll enc Try.prog W 0 (fun _ => true) true Try.f3.params.toList args.toList ds p := hA0
  rw [Try.params3] at hA hval
  obtain ⟨rfl, rfl, rfl⟩ := trodAll_none hA
  obtain ⟨rfl, rfl⟩ := trodVars_none hV
  have hmx : maxLen = 9223372036854775807 := by decide
  clear hA0 hval0
  simp only [List.append_nil] at hW'
  refine (known_walk  W ).mono fun e W' ⟨he, bel⟩ => ?_
  subst he
  exact ⟨_, rfl, _, _, _, [], [], [], hW', trodAll_mk1 (shut_bool Try.underlying4 _), trodAll_mk0, rfl, bel.frame _, fun h => by cases h⟩

/-- DeflateKnown: it answers true. -/
theorem known_holds : Rows.DeflateKnownSaid :=
  OpenClaim.holds_of_wide 3 Try.f3 rfl rfl rfl rfl rfl rfl rfl ⟨rfl, rfl, rfl, rfl, rfl⟩ rfl rfl rfl rfl rfl (by kernel_rfl) Try.func3 (by kernel_rfl)
    (of_decide_eq_true (by kernel_rfl)) (by unfold Func.isWrapper; first | (rw [if_pos (by decide +kernel)]; kernel_rfl) | (rw [if_neg (by decide +kernel)]; exact ⟨rfl, rfl⟩))
    (fun os started H enc _ => known_lifted os started H enc)
#print axioms known_holds

end Go.Proofs.Ytkbgneadhbpcaaa
