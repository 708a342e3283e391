/- SumsKnown: chapter 3's examples. No condition on the input. -/
import Derived.Test.YtfmbbeaojkhmjaaLaw3Do
namespace Go.Proofs.Ytfmbbeaojkhmjaa
open Go.ChangeShapes Go.WideShapes Go.ChangeAt Go.RowKit Go.Deep
set_option linter.unusedVariables false

theorem adler_none (w : World) : Calls Try.prog 7 #[.slice none 0 0] w fun e w' => e = .returned (.int .u32 1) ∧ Below w.heap.size w w' :=
  smAdler none 0 0 (fun _ => none) (fun _ => 0) (fun _ => 0) (fun _ => []) w ⟨fun h => absurd h (by omega), fun i h => absurd h (by omega)⟩ (by omega) (fun i h => absurd h (by omega))
theorem more_none (w : World) : Calls Try.prog 8 #[.int .u32 1, .slice none 0 0] w fun e w' => e = .returned (.int .u32 1) ∧ Below w.heap.size w w' :=
  smMore 1 none 0 0 [] w (by omega) (by omega) (Byt.none_ _ _) (by omega)
theorem adler_three (w W : World) (hW : W = ((w.alloc (.cells #[.int .u8 87, .int .u8 105, .int .u8 107, .int .u8 105] 5 (4, 5))).alloc (.cells #[.int .u8 112, .int .u8 101, .int .u8 100, .int .u8 105, .int .u8 97] 5 (5, 6))).alloc (.cells #[.slice (some ⟨w.heap.size, 0, none⟩) 4 4, .slice none 0 0, .slice (some ⟨w.heap.size + 1, 0, none⟩) 5 5] 25)) :
    Calls Try.prog 7 #[.slice (some ⟨w.heap.size + 1 + 1, 0, none⟩) 3 3] W fun e w' => e = .returned (.int .u32 300286872) ∧ Below w.heap.size w w' := by
  have hs : W.heap.size = w.heap.size + 1 + 1 + 1 := by rw [hW]; simp
  have hb : Below w.heap.size w W := by rw [hW]; exact (((Below.refl _ w).alloc (Nat.le_refl _) _).alloc (by simp) _).alloc (by simp <;> omega) _
  have b1 : Byt W W.heap.size (some ⟨w.heap.size, 0, none⟩) 4 4 [87, 105, 107, 105] := by
    have h := byt_lit w (4, 5) [87, 105, 107, 105] (by decide) 4 rfl _ rfl
    rw [hW]
    exact ((h.alloc (by simp) _).alloc (by simp) _).more (by simp <;> omega)
  have b2 : Byt W W.heap.size (some ⟨w.heap.size + 1, 0, none⟩) 5 5 [112, 101, 100, 105, 97] := by
    have h := byt_lit (w.alloc (.cells #[.int .u8 87, .int .u8 105, .int .u8 107, .int .u8 105] 5 (4, 5))) (5, 6) [112, 101, 100, 105, 97] (by decide) 5 rfl _ rfl
    rw [World.size_alloc] at h
    rw [hW]
    exact (h.alloc (by simp) _).more (by simp)
  have hc : ∀ i, W.cell? ⟨w.heap.size + 1 + 1, i, none⟩ = #[(.slice (some ⟨w.heap.size, 0, none⟩) 4 4 : Value), .slice none 0 0, .slice (some ⟨w.heap.size + 1, 0, none⟩) 5 5][i]? := fun i => by
    rw [hW]
    have e : ((w.alloc (.cells #[.int .u8 87, .int .u8 105, .int .u8 107, .int .u8 105] 5 (4, 5))).alloc (.cells #[.int .u8 112, .int .u8 101, .int .u8 100, .int .u8 105, .int .u8 97] 5 (5, 6))).heap.size = w.heap.size + 1 + 1 := by simp
    rw [← e, World.cell?_alloc_new]
  have hm : moreV 1 (catZ (at3 [87, 105, 107, 105] [] [112, 101, 100, 105, 97]) 3) = 300286872 := by decide
  rw [← hm]
  exact (smAdler _ 3 3 _ _ _ _ W (parts3 (by omega) (hc 0) (hc 1) (hc 2) b1 (Byt.none_ _ _) b2) (by omega) (fun i hi => by
    obtain rfl | rfl | rfl : i = 0 ∨ i = 1 ∨ i = 2 := by omega
    · decide
    · decide
    · decide)).mono fun e w' ⟨he, h⟩ => ⟨he, hb.trans (h.mono (by omega))⟩
set_option maxHeartbeats 1000000 in
theorem known_walk (w : World) :
    Calls Try.prog 3 #[] w fun e w' => e = .returned (.bool true) ∧ Below w.heap.size w w' := by
  have kc := fun (w : World) (C : Array Value) (n c : Nat) => Lib.run_convert_bytes_const (P := Try.prog) w 25 5 C n c Try.underlying25 Try.underlying5
  have kc2 := fun (w : World) (o : Obj) (C : Array Value) (n c : Nat) => (World.size_alloc (w := w) (o := o)) ▸ kc (w.alloc o) C n c
  have HAW := Lib.hid (awake_any w)
  have HA0 := Lib.hid adler_none
  have HA3 := Lib.hid (fun w => adler_three w _ rfl)
  have HM := Lib.hid more_none
  go_enter Try.func3, Try.ntmps3
  go_wp2_with (first
    | (go_at_call 6; refine HAW.out.mono ?_; rintro e w1 ⟨rfl, q1⟩)
    | (go_at_call 7; (with_reducible refine (HA0.out w1).mono ?_); rintro e w2 ⟨rfl, q2⟩; have r2 := q1.trans (q2.mono q1.size))
    | (go_at_call 7; (with_reducible refine (HA3.out w2).mono ?_); rintro e w3 ⟨rfl, q3⟩; have r3 := r2.trans (q3.mono r2.size))
    | (go_at_call 8; (with_reducible refine (HM.out w3).mono ?_); rintro e w4 ⟨rfl, q4⟩; have r4 := r3.trans (q4.mono r3.size)))
  go_ret
  exact ⟨rfl, r4⟩

set_option maxRecDepth 100000 in
theorem known_lifted (os : Os) (started : os.Started) (H : Type) (enc : TypeId × Value → H) :
    ReturnsInHanded {} Try.checked os 3 .any (Rows.sumsKnownSpec.pre6 enc Try.prog Try.f3 Rows.sumsKnownRow.domain false) (Rows.sumsKnownSpec.post enc Try.prog Try.f3 false true false false) := by
  refine returnsInHanded_of_change (C := Try.checked) own started (by kernel_rfl) Try.func3
    (ChangeSpec.witness6 (enc := enc) (C := Try.checked) false ⟨#[], #[], []⟩ 8 (by kernel_rfl) (by kernel_rfl) (by kernel_rfl) (by kernel_rfl)) ?_
  intro W base args ds gs before hval0 hW hcnd _
  have hval : ∀ (j : Nat) t v, Try.f3.params[j]? = some t → args[j]? = some v → Value.okWide Try.prog W .any base t v := hval0
  have hW' := hW
  obtain ⟨p, q, hA0, hV, rfl, hfz, hnd⟩ := hW
  have hA : DataW.TrodAll enc Try.prog W 0 (fun _ => true) true Try.f3.params.toList args.toList ds p := hA0
  rw [Try.params3] at hA hval
  obtain ⟨rfl, rfl, rfl⟩ := trodAll_none hA
  obtain ⟨rfl, rfl⟩ := trodVars_none hV
  have hmx : maxLen = 9223372036854775807 := by decide
  clear hA0 hval0
  simp only [List.append_nil] at hW'
  refine (known_walk  W ).mono fun e W' ⟨he, bel⟩ => ?_
  subst he
  exact ⟨_, rfl, _, _, _, [], [], [], hW', trodAll_mk1 (shut_bool Try.underlying4 _), trodAll_mk0, rfl, bel.frame _, fun h => by cases h⟩

/-- SumsKnown: it answers true. -/
theorem known_holds : Rows.SumsKnownSaid :=
  OpenClaim.holds_of_wide 3 Try.f3 rfl rfl rfl rfl rfl rfl rfl ⟨rfl, rfl, rfl, rfl, rfl⟩ rfl rfl rfl rfl rfl (by kernel_rfl) Try.func3 (by kernel_rfl)
    (of_decide_eq_true (by kernel_rfl)) (by unfold Func.isWrapper; first | (rw [if_pos (by decide +kernel)]; kernel_rfl) | (rw [if_neg (by decide +kernel)]; exact ⟨rfl, rfl⟩))
    (fun os started H enc _ => known_lifted os started H enc)
#print axioms known_holds

end Go.Proofs.Ytfmbbeaojkhmjaa
