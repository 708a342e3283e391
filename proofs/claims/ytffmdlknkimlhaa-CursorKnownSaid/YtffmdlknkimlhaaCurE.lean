/- What the statements' own 'awake' and 'Do' answer: each deed is right, and leads to the place that it should. -/
import Derived.Test.YtffmdlknkimlhaaCurD
import Derived.Lib.SlBytesConst
import Derived.Lib.SmallJoins
namespace Go.Proofs.Ytffmdlknkimlhaa
open Go.RowKit
set_option linter.unusedVariables false

/-- A block of three bytes that the call made. -/
theorem byt_abc (w : World) (fr : Nat × Nat) (o : Obj) :
    Byt ((w.alloc (.cells #[.int .u8 97, .int .u8 98, .int .u8 99] 5 fr)).alloc o) (w.heap.size + 1) (some ⟨w.heap.size, 0, none⟩) 3 3 [97, 98, 99] := by
  refine ⟨rfl, Nat.le_refl _, by decide, fun _ => ⟨w.heap.size, 0, rfl, by omega, fun i hi => ?_⟩⟩
  rw [World.cell?_alloc_lt _ o _ (by simp), World.cell?_alloc_mark]
  match i, hi with
  | 0, _ => rfl
  | 1, _ => rfl
  | 2, _ => rfl

theorem awake_any (w : World) : Calls Try.prog 8 #[] w fun e w' => e = .returned (.bool true) ∧ Below w.heap.size w w' := by
  have kc := fun (w : World) (C : Array Value) (n c : Nat) => Lib.run_convert_bytes_const (P := Try.prog) w 25 5 C n c Try.underlying25 Try.underlying5
  obtain ⟨W1, hW1⟩ : ∃ W1, W1 = w.alloc (.cells #[.int .u8 97, .int .u8 98, .int .u8 99] 5 (3, 4)) := ⟨_, rfl⟩
  have hs1 : W1.heap.size = w.heap.size + 1 := by rw [hW1]; simp
  have hb1 : Below w.heap.size w W1 := by rw [hW1]; exact (Below.refl _ _).alloc (Nat.le_refl _) _
  obtain ⟨W2, hW2⟩ : ∃ W2, W2 = W1.alloc (.cells #[.slice (some ⟨w.heap.size, 0, none⟩) 3 3, .int .i64 (0 : Nat)] 48) := ⟨_, rfl⟩
  have hnew := new_any (some ⟨w.heap.size, 0, none⟩) 3 3 W1
  rw [← hW2] at hnew
  have hcur : Cur W2 W1.heap.size (some ⟨w.heap.size, 0, none⟩) 3 3 0 := by rw [hW2]; exact Cur.new W1
  have hbyt : Byt W2 (w.heap.size + 1) (some ⟨w.heap.size, 0, none⟩) 3 3 [97, 98, 99] := by rw [hW2, hW1]; exact byt_abc w _ _
  have hb2 : Below W1.heap.size W1 W2 := by rw [hW2]; exact (Below.refl _ _).alloc (Nat.le_refl _) _
  have hnx := next_in W1.heap.size 3 3 0 _ _ _ W2 hcur hbyt (by omega) (by omega)
  have e97 : peekZ [97, 98, 99] ((0 : Nat) : Int) = 97 := by decide
  rw [e97] at hnx
  have HNEW := Lib.hid hnew
  have HNX := Lib.hid hnx
  have HW1 := Lib.hid hW1
  have HB1 := Lib.hid hb1
  have HB2 := Lib.hid hb2
  have HS1 := Lib.hid hs1
  clear hnew hnx hW1 hW2 hb1 hb2 hs1 hcur hbyt e97
  go_enter Try.func8, Try.ntmps8
  go_wp2_with (first
    | (go_at_call 9; rw [← HW1.out]; refine HNEW.out.mono ?_; rintro e w' ⟨rfl, hw⟩; subst hw)
    | (go_at_call 10; refine HNX.out.mono ?_; rintro e w3 ⟨rfl, hc3, hb3⟩)
    | (go_at_call 16; refine (pos_any _ _ _ _ _ _ hc3).mono ?_; rintro e w' ⟨rfl, rfl⟩)
    | (go_at_call 17; refine (len_any _ _ _ _ _ _ hc3).mono ?_; rintro e w' ⟨rfl, rfl⟩)
    | (go_at_call 18; refine (left_any _ _ _ _ _ _ hc3 (by omega) (by omega)).mono ?_; rintro e w' ⟨rfl, rfl⟩))
  go_ret
  have h1 := HB1.out
  have h2 := HB2.out
  have h3 := hb3.below h2.size
  exact ⟨rfl, (h1.trans (h2.mono h1.size)).trans (h3.mono h1.size)⟩
end Go.Proofs.Ytffmdlknkimlhaa
