/- CursorKnown answers true: chapter 1's examples. It has no input. -/
import Derived.Test.YtffmdlknkimlhaaFinds
import Derived.Test.YtffmdlknkimlhaaPlays
namespace Go.Proofs.Ytffmdlknkimlhaa
open Go.ChangeShapes Go.WideShapes Go.ChangeAt Go.RowKit
set_option linter.unusedVariables false

/-- A block of bytes that the call made. -/
theorem byt_lit (w : World) (fr : Nat × Nat) (zs : List Int) (hr : ∀ z ∈ zs, 0 ≤ z ∧ z < 256) (n : Nat) (hn : zs.length = n) (C : Array Value) (hC : C = (zs.map (Value.int .u8)).toArray) :
    Byt (w.alloc (.cells C 5 fr)) (w.heap.size + 1) (some ⟨w.heap.size, 0, none⟩) n n zs := by
  refine ⟨hn, Nat.le_refl _, hr, fun _ => ⟨w.heap.size, 0, rfl, by omega, fun i hi => ?_⟩⟩
  rw [World.cell?_alloc_mark, hC, Nat.zero_add]
  simp [List.getD, hn, hi]

theorem find_lit (w : World) (fr : Nat × Nat) (zs : List Int) (hr : ∀ z ∈ zs, 0 ≤ z ∧ z < 256) (n : Nat) (hn : zs.length = n) (h4 : n ≤ 1000000) (C : Array Value) (hC : C = (zs.map (Value.int .u8)).toArray) (s : ByteArray) (hs : s.size ≤ 1000000) (f : Nat) (hf : f ≤ 1000000) (m r : Int) (hm : w.cell? ⟨0, 0, none⟩ = some (.int .i64 m))
    (hres : firstZ (Lib.bytesOf zs) s.data.toList f = r) (from_ : Int) (hfr : from_ = f) :
    Calls Try.prog 13 #[.slice (some ⟨w.heap.size, 0, none⟩) n n, .string s, .int .i64 from_] (w.alloc (.cells C 5 fr)) fun e w' => e = .returned (.int .i64 r) ∧ Below w.heap.size w w' := by
  have hb := byt_lit w fr zs hr n hn C hC
  have hm2 : (w.alloc (.cells C 5 fr)).cell? ⟨0, 0, none⟩ = some (.int .i64 m) := by rw [World.cell?_alloc_lt _ _ _ (cell_lt hm)]; exact hm
  rw [← hres]
  exact (find_nat _ n n _ zs s f m _ hb (by simp) (fun h => by cases h) h4 hs (by omega) from_ (.inl hfr) hm2).mono fun e w' ⟨he, hb⟩ => ⟨he, ((Below.refl _ w).alloc (Nat.le_refl _) _).trans (hb.mono (by simp))⟩
theorem last_lit (w : World) (fr : Nat × Nat) (zs : List Int) (hr : ∀ z ∈ zs, 0 ≤ z ∧ z < 256) (n : Nat) (hn : zs.length = n) (h4 : n ≤ 1000000) (C : Array Value) (hC : C = (zs.map (Value.int .u8)).toArray) (s : ByteArray) (hs : s.size ≤ 1000000) (r : Int)
    (hres : Lib.lastIndex (Lib.bytesOf zs) s.data.toList = r) :
    Calls Try.prog 14 #[.slice (some ⟨w.heap.size, 0, none⟩) n n, .string s] (w.alloc (.cells C 5 fr)) fun e w' => e = .returned (.int .i64 r) ∧ Below w.heap.size w w' := by
  have hb := byt_lit w fr zs hr n hn C hC
  rw [← hres]
  exact (last_any _ n n _ zs s _ hb (by simp) h4 hs).mono fun e w' ⟨he, hb⟩ => ⟨he, ((Below.refl _ w).alloc (Nat.le_refl _) _).trans (hb.mono (by simp))⟩

set_option maxHeartbeats 1000000 in
theorem known_walk (m : Int) (w : World) (hm : w.cell? ⟨0, 0, none⟩ = some (.int .i64 m)) :
    Calls Try.prog 3 #[] w fun e w' => e = .returned (.bool true) ∧ Below w.heap.size w w' := by
  have HAW := Lib.hid (awake_any w)
  have HM := Lib.hid hm
  clear hm
  have kc := fun (w : World) (C : Array Value) (n c : Nat) => Lib.run_convert_bytes_const (P := Try.prog) w 25 5 C n c Try.underlying25 Try.underlying5
  have E97 : Hid (peekZ [97, 98, 99] ((0 : Nat) : Int) = 97) := Lib.hid (by decide)
  have EP0 : Hid (peekZ [97, 98, 99] (((0 + 1 : Nat) : Int) + 0) = 98) := Lib.hid (by decide)
  have EP1 : Hid (peekZ [97, 98, 99] (((0 + 1 : Nat) : Int) + -1) = 97) := Lib.hid (by decide)
  have EBD : Hid (stB [97, 98, 99] 1 ⟨#[98, 100]⟩ = false) := Lib.hid (by rw [stB_occ _ _ _ (by decide)]; decide)
  have EBC : Hid (stB [97, 98, 99] 1 ⟨#[98, 99]⟩ = true) := Lib.hid (by rw [stB_occ _ _ _ (by decide)]; decide)
  have EF1 : Hid (firstZ (Lib.bytesOf [97, 98, 97, 98]) (⟨#[97, 98]⟩ : ByteArray).data.toList 1 = 2) := Lib.hid (by decide)
  have EL1 : Hid (Lib.lastIndex (Lib.bytesOf [97, 98, 97, 98]) (⟨#[97, 98]⟩ : ByteArray).data.toList = 2) := Lib.hid (by decide)
  have EF2 : Hid (firstZ (Lib.bytesOf [97]) (⟨#[]⟩ : ByteArray).data.toList 1 = 1) := Lib.hid (by decide)
  go_enter Try.func3, Try.ntmps3
  go_wp2_with (first
    | (go_at_call 8; refine HAW.out.mono ?_; rintro e w1 ⟨rfl, hb1⟩)
    | (go_at_call 9; refine (new_cur (some ⟨w1.heap.size, 0, none⟩) 3 3 _).mono ?_; rintro e w2 ⟨rfl, hcur2', hbel2'⟩; have hby2 := (byt_lit w1 (3, 4) [97, 98, 99] (by decide) 3 rfl _ rfl).below hbel2' (by simp); have hcur2 : Cur w2 (w1.heap.size + 1) (some ⟨w1.heap.size, 0, none⟩) 3 3 0 := (by simpa using hcur2'); have hbel2 : Below w1.heap.size w1 w2 := ((Below.refl _ w1).alloc (Nat.le_refl _) _).trans (hbel2'.mono (by simp)); clear hbel2' hcur2')
    | (go_at_call 10; (with_reducible refine (next_in _ 3 3 0 _ _ _ w2 hcur2 hby2 (by omega) (by omega)).mono ?_); rw [E97.out]; rintro e w3 ⟨rfl, hcur3, ho3⟩; have hby3 := hby2.only ho3 (Nat.le_refl _) (Nat.le_of_lt hcur2.lt))
    | (go_at_call 11; (with_reducible refine (peek_any _ 3 3 (0 + 1) _ _ _ 0 w3 hcur3 hby3 (by omega) (by omega)).mono ?_); rw [EP0.out]; rintro e w' ⟨rfl, q3, hq3⟩; subst hq3)
    | (go_at_call 11; (with_reducible refine (peek_any _ 3 3 (0 + 1) _ _ _ (-1) _ (hcur3.drewN q3) (hby3.drewN q3) (by omega) (by omega)).mono ?_); rw [EP1.out]; rintro e w' ⟨rfl, q4, hq4⟩; subst hq4)
    | (go_at_call 12; (with_reducible refine (match_diff _ 3 3 (0 + 1) _ _ _ ⟨#[98, 100]⟩ _ (hcur3.drewN _) (hby3.drewN _) (by omega) (by decide) EBD.out).mono ?_); rintro e w' ⟨rfl, q5, hq5⟩; subst hq5)
    | (go_at_call 12; (with_reducible refine (match_yes _ 3 3 (0 + 1) _ _ _ ⟨#[98, 99]⟩ _ (hcur3.drewN _) (hby3.drewN _) (by omega) (by decide) EBC.out).mono ?_); rintro e w5 ⟨rfl, hcur5, ho5⟩)
    | (go_at_call 10; (with_reducible refine (next_out _ 3 3 _ [97, 98, 99] w5 hcur5 rfl (by omega)).mono ?_); rintro e w' ⟨rfl, rfl⟩)
    | (go_at_call 13; have hb5 : Below w.heap.size w w5 := ((hb1.trans (hbel2.mono hb1.size)).trans (ho3.belowB (Nat.le_succ_of_le hb1.size) (Nat.le_of_lt hcur2.lt))).trans ((below_drewN (Below.refl _ w3) _).trans (ho5.belowB (Nat.le_succ_of_le hb1.size) (Nat.le_of_lt hcur3.lt))); have hm5 := (hb5.cell (p := ⟨0, 0, none⟩) (cell_lt HM.out)).trans HM.out; (with_reducible refine (find_lit w5 (4, 5) [97, 98, 97, 98] (by decide) 4 rfl (by omega) #[.int .u8 97, .int .u8 98, .int .u8 97, .int .u8 98] rfl ⟨#[97, 98]⟩ (by decide) 1 (by omega) m 2 hm5 EF1.out 1 rfl).mono ?_); rintro e w6 ⟨rfl, hb6⟩; have hm6 := (hb6.cell (p := ⟨0, 0, none⟩) (cell_lt hm5)).trans hm5; clear hm5)
    | (go_at_call 14; (with_reducible refine (last_lit w6 (4, 5) [97, 98, 97, 98] (by decide) 4 rfl (by omega) #[.int .u8 97, .int .u8 98, .int .u8 97, .int .u8 98] rfl ⟨#[97, 98]⟩ (by decide) 2 EL1.out).mono ?_); rintro e w7 ⟨rfl, hb7⟩; have hm7 := (hb7.cell (p := ⟨0, 0, none⟩) (cell_lt hm6)).trans hm6; clear hm6)
    | (go_at_call 13; (with_reducible refine (find_lit w7 (1, 2) [97] (by decide) 1 rfl (by omega) #[.int .u8 97] rfl ⟨#[]⟩ (by decide) 1 (by omega) m 1 hm7 EF2.out 1 rfl).mono ?_); rintro e w8 ⟨rfl, hb8⟩))
  go_ret
  exact ⟨rfl, ((hb5.trans (hb6.mono hb5.size)).trans (hb7.mono (Nat.le_trans hb5.size hb6.size))).trans (hb8.mono (Nat.le_trans (Nat.le_trans hb5.size hb6.size) hb7.size))⟩

set_option maxRecDepth 100000 in
theorem known_lifted (os : Os) (started : os.Started) (H : Type) (enc : TypeId × Value → H) :
    ReturnsInHanded {} Try.checked os 3 .any (Rows.cursorKnownSpec.pre6 enc Try.prog Try.f3 Rows.cursorKnownRow.domain false) (Rows.cursorKnownSpec.post enc Try.prog Try.f3 false true false false) := by
  refine returnsInHanded_of_change_shaped (C := Try.checked) own started (by kernel_rfl) Try.func3
    (ChangeSpec.witness6 (enc := enc) (C := Try.checked) false ⟨#[], #[], []⟩ 8 (by kernel_rfl) (by kernel_rfl) (by kernel_rfl) (by kernel_rfl)) ?_
  intro W base args ds gs before hval0 hW hcnd _ hsh _
  have hval : ∀ (j : Nat) t v, Try.f3.params[j]? = some t → args[j]? = some v → Value.okWide Try.prog W .any base t v := hval0
  have hW' := hW
  obtain ⟨p, q, hA0, hV, rfl, hfz, hnd⟩ := hW
  have hA : DataW.TrodAll enc Try.prog W 0 (fun _ => true) true Try.f3.params.toList args.toList ds p := hA0
  rw [Try.params3] at hA hval
  obtain ⟨rfl, rfl, rfl⟩ := trodAll_none hA
  obtain ⟨rfl, rfl⟩ := trodVars_none hV
  obtain ⟨m, hm⟩ := Try.laysM185.s1_3 W hsh
  have hm' : W.cell? ⟨0, 0, none⟩ = some (.int .i64 m) := hm
  clear hA0 hval0
  simp only [List.append_nil] at hW'
  refine (known_walk m W hm').mono fun e W' ⟨he, bel⟩ => ?_
  subst he
  exact ⟨_, rfl, _, _, _, [], [], [], hW', trodAll_mk1 (shut_bool Try.underlying4 _), trodAll_mk0, rfl, bel.frame _, fun h => by cases h⟩

/-- CursorKnown: it answers true. -/
theorem known_holds : Rows.CursorKnownSaid :=
  OpenClaim.holds_of_wide 3 Try.f3 rfl rfl rfl rfl rfl rfl rfl ⟨rfl, rfl, rfl, rfl, rfl⟩ rfl rfl rfl rfl rfl (by kernel_rfl) Try.func3 (by kernel_rfl)
    (of_decide_eq_true (by kernel_rfl)) (by unfold Func.isWrapper; first | (rw [if_pos (by decide +kernel)]; kernel_rfl) | (rw [if_neg (by decide +kernel)]; exact ⟨rfl, rfl⟩))
    (fun os started H enc _ => known_lifted os started H enc)
#print axioms known_holds
end Go.Proofs.Ytffmdlknkimlhaa
