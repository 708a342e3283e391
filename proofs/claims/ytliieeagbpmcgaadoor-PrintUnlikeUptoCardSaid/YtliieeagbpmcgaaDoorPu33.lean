/- Contracts of functions that the law calls, and what they lean on (a part). -/
import Derived.Test.YtliieeagbpmcgaaDoorPu27
import Derived.Test.YtliieeagbpmcgaaDoorPu29
import Derived.Test.YtliieeagbpmcgaaDoorPu32
namespace Go.Proofs.YtliieeagbpmcgaaDoor
section
open Go.RowKit
set_option linter.unusedVariables false
set_option maxRecDepth 100000
theorem own_slice {w : World} {base e size n : Nat} {v : Value} {cs : List Value} (h : w.ownsRow base e size v n cs) : ∃ A c, v = .slice A n c := by
  obtain ⟨A, c, e, _⟩ := row_shapeN h
  exact ⟨A, c, e⟩
end

section
open Go.RowKit
set_option linter.unusedVariables false
set_option maxRecDepth 100000
/-- Five cells in new memory, and the object that is to stand there. -/
structure Sp where
  g : Nat
  o : Nat
  x : Ob
mutual
/-- How deep an object is. -/
def htO : Ob → Nat
  | .mk _ _ _ l d => 1 + max (htL l) (htE d)
def htL : Obs → Nat
  | .nil => 0
  | .cons x xs => max (htO x) (htL xs)
def htE : Ens → Nat
  | .nil => 0
  | .cons _ x xs => max (htO x) (htE xs)
end
/-- The five cells of a spot. -/
def Five (w : World) (p : Sp) (c0 c1 c2 c3 c4 : Value) : Prop := w.cell? ⟨p.g, p.o, none⟩ = some c0 ∧ w.cell? ⟨p.g, p.o + 1, none⟩ = some c1 ∧ w.cell? ⟨p.g, p.o + 2, none⟩ = some c2 ∧ w.cell? ⟨p.g, p.o + 3, none⟩ = some c3 ∧ w.cell? ⟨p.g, p.o + 4, none⟩ = some c4
end

section
open Go.RowKit
set_option linter.unusedVariables false
set_option maxRecDepth 100000
theorem ObR.form {w : World} {S : Nat → Prop} : ∀ {x : Ob} {c0 c1 c2 c3 c4 : Value}, ObR w S x c0 c1 c2 c3 c4 → ∃ k n A2 m2 d2 A3 m3 d3 A4 m4 d4, c0 = .int .i64 k ∧ c1 = .int .i64 n ∧ c2 = .slice A2 m2 d2 ∧ c3 = .slice A3 m3 d3 ∧ c4 = .slice A4 m4 d4
  | .mk k n b l d, c0, c1, c2, c3, c4, h => by
    unfold ObR at h
    obtain ⟨h0, h1, _, _, ⟨A, m, c, e2, _⟩, ⟨AL, cL, e3, _⟩, ⟨AD, cD, e4, _⟩⟩ := h
    exact ⟨k, n, A, m, c, AL, _, cL, AD, _, cD, h0, h1, e2, e3, e4⟩
end

section
open Go.RowKit Go.Sort
set_option linter.unusedVariables false
set_option maxRecDepth 100000
/-- The fields that a kind uses. -/
def usesZ (k : Int) : Int := if k = 1 ∨ k = 2 ∨ k = 3 ∨ k = 9 then 1 else if k = 4 ∨ k = 5 then 2 else if k = 6 then 4 else if k = 7 then 8 else if k = 8 then 10 else 0
theorem usesC (k : Int) (w : World) : Calls Tryd.prog 34 #[.int .i64 k] w fun e w' => e = .returned (.int .i64 (usesZ k)) ∧ w = w' := by
  by_cases h : k = 1 ∨ k = 2 ∨ k = 3 ∨ k = 4 ∨ k = 5 ∨ k = 6 ∨ k = 7 ∨ k = 8 ∨ k = 9
  · rcases h with rfl | rfl | rfl | rfl | rfl | rfl | rfl | rfl | rfl
    all_goals
      go_enter Tryd.func34, Tryd.ntmps34
      go_wp2
      go_ret
      exact ⟨rfl, rfl⟩
  · have e : usesZ k = 0 := by unfold usesZ; rw [if_neg (by omega), if_neg (by omega), if_neg (by omega), if_neg (by omega), if_neg (by omega)]
    rw [e]
    have h1 : (k == 1) = false := beq_eq_false_iff_ne.2 (by omega)
    have h2 : (k == 2) = false := beq_eq_false_iff_ne.2 (by omega)
    have h3 : (k == 3) = false := beq_eq_false_iff_ne.2 (by omega)
    have h4 : (k == 4) = false := beq_eq_false_iff_ne.2 (by omega)
    have h5 : (k == 5) = false := beq_eq_false_iff_ne.2 (by omega)
    have h6 : (k == 6) = false := beq_eq_false_iff_ne.2 (by omega)
    have h7 : (k == 7) = false := beq_eq_false_iff_ne.2 (by omega)
    have h8 : (k == 8) = false := beq_eq_false_iff_ne.2 (by omega)
    have h9 : (k == 9) = false := beq_eq_false_iff_ne.2 (by omega)
    clear h e
    go_enter Tryd.func34, Tryd.ntmps34
    go_wp2
    go_ret
    exact ⟨rfl, rfl⟩
def nullB (k : Int) : Bool := decide (usesZ k = 0)
theorem nullC (k : Int) (c1 c2 c3 c4 : Value) (w : World) : Calls Tryd.prog 62 #[.agg #[.int .i64 k, c1, c2, c3, c4]] w fun e w' => e = .returned (.bool (nullB k)) ∧ ∃ q os, w' = grow (w.drewN q) os := by
  go_enter Tryd.func62, Tryd.ntmps62
  go_wp2_with (go_at_call 34; refine (usesC _ _).mono ?_; rintro e w' ⟨rfl, rfl⟩)
  go_ret
  exact ⟨ret_bool (by unfold nullB; rfl), (Grw.refl w).alloc _⟩
end

section
open Go.RowKit Go.Sort
set_option linter.unusedVariables false
set_option maxRecDepth 100000
abbrev KV := ByteArray × Ob
def Ens.toL : Ens → List KV
  | .nil => []
  | .cons s x xs => (s, x) :: xs.toL
def Ens.ofL : List KV → Ens
  | [] => .nil
  | p :: ps => .cons p.1 p.2 (Ens.ofL ps)
theorem Ens.of_to : ∀ l : Ens, Ens.ofL l.toL = l
  | .nil => rfl
  | .cons s x xs => by rw [Ens.toL, Ens.ofL, Ens.of_to xs]
/-- Keys that rise, each once. -/
def SS (l : List KV) : Prop := l.Pairwise (fun a b => ltS a.1 b.1 = true)
theorem SS.cons {p : KV} {l : List KV} : SS (p :: l) ↔ (∀ q ∈ l, ltS p.1 q.1 = true) ∧ SS l := by unfold SS; rw [List.pairwise_cons]
theorem lt_ne {s t : ByteArray} (h : ltS s t = true) : s ≠ t := fun e => by rw [e, ltS_irrefl] at h; cases h
theorem leS_lt {s t : ByteArray} : leS s t = true ↔ ltS s t = true ∨ s = t := by
  unfold leS ltS
  rw [Bool.or_eq_true, beq_iff_eq]
  constructor
  · rintro (h | h)
    · exact .inl h
    · exact .inr (toListB_inj h)
  · rintro (h | h)
    · exact .inl h
    · exact .inr (by rw [h])
theorem leS_no {s t : ByteArray} (h : ¬ leS s t = true) : ltS t s = true := by
  cases h1 : ltS t s with
  | true => rfl
  | false =>
    exfalso
    apply h
    rw [leS_lt]
    cases h2 : ltS s t with
    | true => exact .inl rfl
    | false => exact .inr (ltS_eq_of h2 h1)
theorem with_true (s : ByteArray) (x : Ob) : ∀ d : Ens, (withE s x d true).toL = d.toL.filter (fun p => decide (p.1 ≠ s))
  | .nil => by rw [withE, if_pos rfl]; rfl
  | .cons t y ys => by
    rw [withE, if_neg (by simp), Ens.toL, List.filter_cons]
    by_cases h : t = s
    · rw [if_pos h, if_neg (by simp [h]), with_true s x ys]
    · rw [if_neg h, if_pos (by simp [h]), Ens.toL, with_true s x ys]
theorem with_false (s : ByteArray) (x : Ob) : ∀ d : Ens, SS d.toL → (withE s x d false).toL = d.toL.filter (fun p => ltS p.1 s) ++ (s, x) :: d.toL.filter (fun p => ltS s p.1)
  | .nil, _ => by rw [withE, if_neg (by simp)]; rfl
  | .cons t y ys, h => by
    rw [Ens.toL, SS.cons] at h
    rw [withE]
    by_cases hle : leS s t = true
    · rw [if_pos ⟨rfl, hle⟩]
      have hys : ∀ p ∈ ys.toL, ltS s p.1 = true := fun p hp => by
        rcases leS_lt.1 hle with h1 | h1
        · exact ltS_trans h1 (h.1 p hp)
        · rw [h1]; exact h.1 p hp
      have f1 : ys.toL.filter (fun p => ltS p.1 s) = [] := by
        rw [List.filter_eq_nil_iff]; intro p hp; rw [ltS_asymm (hys p hp)]; simp
      have f2 : ys.toL.filter (fun p => ltS s p.1) = ys.toL := by
        rw [List.filter_eq_self]; exact hys
      have f3 : ys.toL.filter (fun p => decide (p.1 ≠ s)) = ys.toL := by
        rw [List.filter_eq_self]; intro p hp; simp; exact (lt_ne (hys p hp)).symm
      by_cases hts : t = s
      · subst hts
        rw [if_pos rfl, Ens.toL, with_true, Ens.toL, List.filter_cons, List.filter_cons, if_neg (by rw [ltS_irrefl]; simp), if_neg (by rw [ltS_irrefl]; simp), f1, f2, f3]; rfl
      · have hlt : ltS s t = true := by
          rcases leS_lt.1 hle with h1 | h1
          · exact h1
          · exact absurd h1.symm hts
        rw [if_neg hts, Ens.toL, Ens.toL, with_true, Ens.toL, List.filter_cons, List.filter_cons, if_neg (by rw [ltS_asymm hlt]; simp), if_pos hlt, f1, f2, f3]; rfl
    · have hlt := leS_no hle
      rw [if_neg (by simp [hle]), if_neg (lt_ne hlt), Ens.toL, with_false s x ys h.2, Ens.toL, List.filter_cons, List.filter_cons, if_pos hlt, if_neg (by rw [ltS_asymm hlt]; simp)]; rfl
end

section
open Go.RowKit Go.Sort
set_option linter.unusedVariables false
set_option maxRecDepth 100000
theorem set6_row {W : World} {g : Nat} {z0 z1 z2 z3 z4 z5 x0 x1 x2 x3 x4 x5 : Value} {T : TypeId} (h : W.heap[g]? = some (.cells #[z0, z1, z2, z3, z4, z5] T (0, 0))) : ((((((W.setCell ⟨g, 0, none⟩ x0).setCell ⟨g, 1, none⟩ x1).setCell ⟨g, 2, none⟩ x2).setCell ⟨g, 3, none⟩ x3).setCell ⟨g, 4, none⟩ x4).setCell ⟨g, 5, none⟩ x5).heap[g]? = some (.cells #[x0, x1, x2, x3, x4, x5] T (0, 0)) := by
  have h1 := heap_set W g 0 x0 [z0, z1, z2, z3, z4, z5] _ h
  have h2 := heap_set _ g 1 x1 _ _ h1
  have h3 := heap_set _ g 2 x2 _ _ h2
  have h4 := heap_set _ g 3 x3 _ _ h3
  have h5 := heap_set _ g 4 x4 _ _ h4
  exact heap_set _ g 5 x5 _ _ h5
theorem heap_set6 {W : World} {b g : Nat} {x0 x1 x2 x3 x4 x5 : Value} (hl : b ≠ g) : ((((((W.setCell ⟨g, 0, none⟩ x0).setCell ⟨g, 1, none⟩ x1).setCell ⟨g, 2, none⟩ x2).setCell ⟨g, 3, none⟩ x3).setCell ⟨g, 4, none⟩ x4).setCell ⟨g, 5, none⟩ x5).heap[b]? = W.heap[b]? :=
  (set_blk9 _ g 5 b x5 hl).trans (heap_set5 hl)
theorem size_set6 {W : World} {g : Nat} {x0 x1 x2 x3 x4 x5 : Value} : ((((((W.setCell ⟨g, 0, none⟩ x0).setCell ⟨g, 1, none⟩ x1).setCell ⟨g, 2, none⟩ x2).setCell ⟨g, 3, none⟩ x3).setCell ⟨g, 4, none⟩ x4).setCell ⟨g, 5, none⟩ x5).heap.size = W.heap.size := by simp [World.setCell]
theorem below_set6 {B : Nat} {w W : World} {g : Nat} {x0 x1 x2 x3 x4 x5 : Value} (h : Below B w W) (hl : B ≤ g) : Below B w ((((((W.setCell ⟨g, 0, none⟩ x0).setCell ⟨g, 1, none⟩ x1).setCell ⟨g, 2, none⟩ x2).setCell ⟨g, 3, none⟩ x3).setCell ⟨g, 4, none⟩ x4).setCell ⟨g, 5, none⟩ x5) :=
  (below_set5 h hl).setCell (p := ⟨g, 5, none⟩) hl x5
/-- What Pair answers. -/
def PaP (w : World) (s : ByteArray) (x : Ob) (r : Ending) (w' : World) : Prop := ∃ d0 d1 d2 d3 d4, r = .returned (.agg #[.string s, d0, d1, d2, d3, d4]) ∧ ObR w' (fun g => w.heap.size ≤ g ∧ g < w'.heap.size) x d0 d1 d2 d3 d4 ∧ Below w.heap.size w w'
end

section
open Go.RowKit Go.Sort
set_option linter.unusedVariables false
set_option maxRecDepth 100000
abbrev nilV : Value := .slice none 0 0
def usedV (k n : Int) (vB vL vD : Value) : Value :=
  if k = 1 ∨ k = 2 ∨ k = 3 ∨ k = 9 then .agg #[.int .i64 k, .int .i64 n, nilV, nilV, nilV]
  else if k = 4 ∨ k = 5 then .agg #[.int .i64 k, .int .i64 0, vB, nilV, nilV]
  else if k = 6 then .agg #[.int .i64 k, .int .i64 0, nilV, vL, nilV]
  else if k = 7 then .agg #[.int .i64 k, .int .i64 0, nilV, nilV, vD]
  else if k = 8 then .agg #[.int .i64 k, .int .i64 0, vB, nilV, vD]
  else .agg #[.int .i64 0, .int .i64 0, nilV, nilV, nilV]
theorem pNone0 (w : World) : Calls Tryd.prog 44 #[] w fun e w' => e = .returned (.agg #[.int .i64 0, .int .i64 0, nilV, nilV, nilV]) ∧ Below w.heap.size w w' := by
  go_enter Tryd.func44, Tryd.ntmps44
  go_wp2_with fail
  exact bodyPost_ret (results_cell_row rfl _ _ w.heap.size 26 _ (0, 0) _ rfl (heap_alloc_new w _) Tryd.underlying26 rfl (by kernel_rfl)) rfl ⟨rfl, (Below.refl _ _).alloc (Nat.le_refl _) _⟩
set_option maxHeartbeats 4000000 in
theorem usedC (k n : Int) (A2 A3 A4 : Option Addr) (m2 c2 m3 c3 m4 c4 : Nat) (w : World) :
    Calls Tryd.prog 32 #[.agg #[.int .i64 k, .int .i64 n, .slice A2 m2 c2, .slice A3 m3 c3, .slice A4 m4 c4]] w fun e w' => e = .returned (usedV k n (.slice A2 m2 c2) (.slice A3 m3 c3) (.slice A4 m4 c4)) ∧ Below w.heap.size w w' := by
  have HU := usesC k
  have HB : Hid (∀ o1 o2 : Obj, Below w.heap.size w ((w.alloc o1).alloc o2)) := Lib.hid (fun o1 o2 => ((Below.refl _ _).alloc (Nat.le_refl _) o1).alloc (by simp) o2)
  by_cases h : k = 1 ∨ k = 2 ∨ k = 3 ∨ k = 4 ∨ k = 5 ∨ k = 6 ∨ k = 7 ∨ k = 8 ∨ k = 9
  · rcases h with rfl | rfl | rfl | rfl | rfl | rfl | rfl | rfl | rfl
    all_goals
      simp [usesZ] at HU
      go_enter Tryd.func32, Tryd.ntmps32
      go_wp2_with (go_at_call 34; refine (HU _).mono ?_; rintro e w' ⟨rfl, rfl⟩)
      refine bodyPost_ret (results_cell_row rfl _ _ (w.heap.size + 1) 26 _ (0, 0) _ rfl (heap_alloc2_new w _ _) Tryd.underlying26 rfl (by kernel_rfl)) rfl ?_
      exact ⟨by simp [usedV], HB.out _ _⟩
  · have e : usesZ k = 0 := by unfold usesZ; rw [if_neg (by omega), if_neg (by omega), if_neg (by omega), if_neg (by omega), if_neg (by omega)]
    have e2 : usedV k n (.slice A2 m2 c2) (.slice A3 m3 c3) (.slice A4 m4 c4) = .agg #[.int .i64 0, .int .i64 0, nilV, nilV, nilV] := by unfold usedV; rw [if_neg (by omega), if_neg (by omega), if_neg (by omega), if_neg (by omega), if_neg (by omega)]
    rw [e2]
    rw [e] at HU
    have HB2 := Lib.hid (HB.out (.cells #[.int .i64 k, .int .i64 n, .slice A2 m2 c2, .slice A3 m3 c3, .slice A4 m4 c4] 26) (.cells #[.int .i64 0, .int .i64 0, .slice none 0 0, .slice none 0 0, .slice none 0 0] 26))
    have hn := heap_alloc2_new w (.cells #[.int .i64 k, .int .i64 n, .slice A2 m2 c2, .slice A3 m3 c3, .slice A4 m4 c4] 26) (.cells #[.int .i64 0, .int .i64 0, .slice none 0 0, .slice none 0 0, .slice none 0 0] 26)
    have hsz : ((w.alloc (.cells #[.int .i64 k, .int .i64 n, .slice A2 m2 c2, .slice A3 m3 c3, .slice A4 m4 c4] 26)).alloc (.cells #[.int .i64 0, .int .i64 0, .slice none 0 0, .slice none 0 0, .slice none 0 0] 26)).heap.size = w.heap.size + 2 := by simp
    have hk0 : ((w.alloc (.cells #[.int .i64 k, .int .i64 n, .slice A2 m2 c2, .slice A3 m3 c3, .slice A4 m4 c4] 26)).alloc (.cells #[.int .i64 0, .int .i64 0, .slice none 0 0, .slice none 0 0, .slice none 0 0] 26)).cell? ⟨w.heap.size, 0, none⟩ = some (.int .i64 k) := by simp
    obtain ⟨W2, hW2⟩ : ∃ W2, (w.alloc (.cells #[.int .i64 k, .int .i64 n, .slice A2 m2 c2, .slice A3 m3 c3, .slice A4 m4 c4] 26)).alloc (.cells #[.int .i64 0, .int .i64 0, .slice none 0 0, .slice none 0 0, .slice none 0 0] 26) = W2 := ⟨_, rfl⟩
    rw [hW2] at HB2 hn hsz hk0
    have HN := Lib.hid hn
    have HZ := Lib.hid hsz
    have HW2 := Lib.hid hW2
    clear h e e2 hn hsz hW2 HB
    go_enter Tryd.func32, Tryd.ntmps32
    go_upto_region 1 with fail
    rw [HW2.out]
    go_wp2_with (first | (go_at_call 34; refine (HU _).mono ?_; rintro e w' ⟨rfl, rfl⟩) | (go_at_call 44; refine (pNone0 _).mono ?_; (rintro r w3 ⟨rfl, hb3⟩); have HN3 := Lib.hid (blk_keep9 hb3 HN.out); have HB3 := Lib.hid (HB2.out.trans (hb3.mono HB2.out.size)); (obtain ⟨r0, r1, r2, r3, r4, r5⟩ := zero_cells HN3.out); clear hb3 hk0))
    refine bodyPost_ret (results_cell_row rfl _ _ (w.heap.size + 1) 26 _ (0, 0) _ rfl (set5_row HN3.out) Tryd.underlying26 rfl (by kernel_rfl)) rfl ?_
    exact ⟨rfl, below_set5 HB3.out (Nat.le_succ _)⟩
theorem Ens.get_none : ∀ (l : Ens) (j : Nat), l.len ≤ j → l.get? j = none
  | .nil, j, _ => rfl
  | .cons t y ys, 0, h => by simp [Ens.len] at h
  | .cons t y ys, j + 1, h => by rw [Ens.get?]; exact Ens.get_none ys j (by rw [Ens.len] at h; omega)
end

section
open Go.RowKit
set_option linter.unusedVariables false
set_option maxRecDepth 100000
theorem Obs.nil_of {l : Obs} (h : l.len = 0) : l = .nil := by
  cases l with
  | nil => rfl
  | cons x xs => simp [Obs.len] at h
theorem Ens.nil_of {l : Ens} (h : l.len = 0) : l = .nil := by
  cases l with
  | nil => rfl
  | cons s x xs => simp [Ens.len] at h
theorem may_parts {k n : Int} {b : List Int} {l : Obs} {d : Ens} {e : Int} (h : mayO (.mk k n b l d) e = true) : (0 ≤ k ∧ k ≤ 9) ∧ (l = .nil ∨ mayL l e = true) ∧ (d = .nil ∨ mayE d none e = true) ∧ (l = .nil ∨ d = .nil) := by
  rw [mayO] at h
  by_cases hb : badF k b.length l.len d.len = true
  · rw [if_pos hb] at h; cases h
  rw [if_neg hb] at h
  have hl : l = .nil ∨ k = 6 := by
    rcases Nat.eq_zero_or_pos l.len with h0 | h0
    · exact .inl (Obs.nil_of h0)
    · refine .inr (Classical.byContradiction fun hk => hb ?_)
      unfold badF; exact decide_eq_true (.inl ⟨h0, hk⟩)
  have hd : d = .nil ∨ k = 7 ∨ k = 8 := by
    rcases Nat.eq_zero_or_pos d.len with h0 | h0
    · exact .inl (Ens.nil_of h0)
    · refine .inr (Classical.byContradiction fun hk => hb ?_)
      unfold badF; exact decide_eq_true (.inr (.inl ⟨h0, fun e => hk (.inl e), fun e => hk (.inr e)⟩))
  by_cases h6 : k = 6
  · subst h6
    have hd : d = .nil := by rcases hd with h | h | h; exact h; omega; omega
    by_cases hn : n = 0
    · simp [hn] at h
      exact ⟨by omega, .inr h.1, .inl hd, .inr hd⟩
    · simp [hn] at h
  · have hl : l = .nil := hl.resolve_right h6
    by_cases h78 : k = 7 ∨ k = 8
    · have h1 : ¬ k = 1 := by omega
      have h2 : ¬ k = 2 := by omega
      have h3 : ¬ k = 3 := by omega
      have h9 : ¬ k = 9 := by omega
      have h0 : ¬ k = 0 := by omega
      have h4 : ¬ k = 4 := by omega
      have h5 : ¬ k = 5 := by omega
      rw [if_neg h1, if_neg h2, if_neg h3, if_neg h9] at h
      by_cases hn : n ≠ 0
      · rw [if_pos hn] at h; cases h
      rw [if_neg hn, if_neg h0, if_neg h4, if_neg h5, if_neg h6, if_pos h78] at h
      by_cases hx : e < 1 ∨ 16777216 < b.length
      · rw [if_pos hx] at h; cases h
      rw [if_neg hx] at h
      exact ⟨by omega, .inl hl, .inr h, .inl hl⟩
    · have hd : d = .nil := by rcases hd with h | h; exact h; exact absurd h h78
      refine ⟨?_, .inl hl, .inl hd, .inl hl⟩
      by_cases h1 : k = 1
      · omega
      by_cases h2 : k = 2
      · omega
      by_cases h3 : k = 3
      · omega
      by_cases h9 : k = 9
      · omega
      by_cases h0 : k = 0
      · omega
      by_cases h4 : k = 4
      · omega
      by_cases h5 : k = 5
      · omega
      rw [if_neg h1, if_neg h2, if_neg h3, if_neg h9] at h
      by_cases hn : n ≠ 0
      · rw [if_pos hn] at h; cases h
      rw [if_neg hn, if_neg h0, if_neg h4, if_neg h5, if_neg h6, if_neg h78] at h
      cases h
theorem may_kind {x : Ob} {e : Int} (h : mayO x e = true) : 0 ≤ x.kind ∧ x.kind ≤ 9 := by
  obtain ⟨k, n, b, l, d⟩ := x
  exact (may_parts h).1
end

section
open Go.RowKit Go.Sort
set_option linter.unusedVariables false
set_option maxRecDepth 100000
theorem mayE_ss : ∀ (d : Ens) (pv : Option ByteArray) (e : Int), mayE d pv e = true → SS d.toL ∧ ∀ p, pv = some p → ∀ q ∈ d.toL, ltS p q.1 = true
  | .nil, pv, e, _ => by rw [Ens.toL]; exact ⟨List.Pairwise.nil, fun p hp q hq => by cases hq⟩
  | .cons s x xs, pv, e, h => by
    rw [mayE] at h
    by_cases h1 : nameS s = true ∧ (∀ p, pv = some p → leS s p = false) ∧ x.kind ≠ 8 ∧ x.kind ≠ 0 ∧ mayO x (e - 1) = true
    · rw [if_pos h1] at h
      obtain ⟨a, b⟩ := mayE_ss xs (some s) e h
      rw [Ens.toL, SS.cons]
      refine ⟨⟨fun q hq => b s rfl q hq, a⟩, fun p hp q hq => ?_⟩
      have hps : ltS p s = true := leS_no (by rw [h1.2.1 p hp]; simp)
      rcases List.mem_cons.1 hq with rfl | hq
      · exact hps
      · exact ltS_trans hps (b s rfl q hq)
    · rw [if_neg h1] at h; cases h
theorem may_fields {k n : Int} {b : List Int} {l : Obs} {d : Ens} {e : Int} (h : mayO (.mk k n b l d) e = true) : (b = [] ∨ k = 4 ∨ k = 5 ∨ k = 8) ∧ (l = .nil ∨ k = 6) ∧ (d = .nil ∨ k = 7 ∨ k = 8) ∧ (n = 0 ∨ k = 1 ∨ k = 2 ∨ k = 3 ∨ k = 9) := by
  rw [mayO] at h
  by_cases hb : badF k b.length l.len d.len = true
  · rw [if_pos hb] at h; cases h
  rw [if_neg hb] at h
  refine ⟨?_, ?_, ?_, ?_⟩
  · rcases Nat.eq_zero_or_pos b.length with h0 | h0
    · exact .inl (List.eq_nil_of_length_eq_zero h0)
    · refine .inr (Classical.byContradiction fun hk => hb ?_)
      unfold badF; exact decide_eq_true (.inr (.inr ⟨h0, fun e => hk (.inl e), fun e => hk (.inr (.inl e)), fun e => hk (.inr (.inr e))⟩))
  · rcases Nat.eq_zero_or_pos l.len with h0 | h0
    · exact .inl (Obs.nil_of h0)
    · refine .inr (Classical.byContradiction fun hk => hb ?_)
      unfold badF; exact decide_eq_true (.inl ⟨h0, hk⟩)
  · rcases Nat.eq_zero_or_pos d.len with h0 | h0
    · exact .inl (Ens.nil_of h0)
    · refine .inr (Classical.byContradiction fun hk => hb ?_)
      unfold badF; exact decide_eq_true (.inr (.inl ⟨h0, fun e => hk (.inl e), fun e => hk (.inr e)⟩))
  · by_cases h1 : k = 1
    · exact .inr (.inl h1)
    by_cases h2 : k = 2
    · exact .inr (.inr (.inl h2))
    by_cases h3 : k = 3
    · exact .inr (.inr (.inr (.inl h3)))
    by_cases h9 : k = 9
    · exact .inr (.inr (.inr (.inr h9)))
    rw [if_neg h1, if_neg h2, if_neg h3, if_neg h9] at h
    by_cases hn : n = 0
    · exact .inl hn
    · rw [if_pos hn] at h; cases h
end

section
open Go.RowKit Go.Sort
set_option linter.unusedVariables false
set_option maxRecDepth 100000
theorem row5_cells {W : World} {g : Nat} {z0 z1 z2 z3 z4 : Value} {T : TypeId} (hh : W.heap[g]? = some (.cells #[z0, z1, z2, z3, z4] T (0, 0))) :
    W.cell? ⟨g, 0, none⟩ = some z0 ∧ W.cell? ⟨g, 1, none⟩ = some z1 ∧ W.cell? ⟨g, 2, none⟩ = some z2 ∧ W.cell? ⟨g, 3, none⟩ = some z3 ∧ W.cell? ⟨g, 4, none⟩ = some z4 ∧ (∀ j, W.frozen? ⟨g, j, none⟩ = false) :=
  ⟨cell_of_row _ _ 0 _ _ (0, 0) hh, cell_of_row _ _ 1 _ _ (0, 0) hh, cell_of_row _ _ 2 _ _ (0, 0) hh, cell_of_row _ _ 3 _ _ (0, 0) hh, cell_of_row _ _ 4 _ _ (0, 0) hh, fun j => by simp [World.frozen?, hh]⟩
end

section
open Go.RowKit
set_option linter.unusedVariables false
set_option maxRecDepth 100000
set_option maxHeartbeats 1000000 in
theorem rPairC (s : ByteArray) (x : Ob) (S : Nat → Prop) (w : World) (c0 c1 c2 c3 c4 : Value) (hx : ObR w S x c0 c1 c2 c3 c4) (hS : ∀ g, S g → g < w.heap.size) (hok : okO x) : Calls Tryd.prog 10 #[.string s, .agg #[c0, c1, c2, c3, c4]] w (PaP w s x) := by
  have a1 := (Below.refl w.heap.size w).alloc (Nat.le_refl _) (.cells #[c0, c1, c2, c3, c4] 26)
  have n1 := heap_alloc_new w (.cells #[c0, c1, c2, c3, c4] 26)
  have z1 : (w.alloc (.cells #[c0, c1, c2, c3, c4] 26)).heap.size = w.heap.size + 1 := by simp
  obtain ⟨W1, hW1⟩ : ∃ W1, w.alloc (.cells #[c0, c1, c2, c3, c4] 26) = W1 := ⟨_, rfl⟩
  rw [hW1] at a1 n1 z1
  have a2 := (Below.refl W1.heap.size W1).alloc (Nat.le_refl _) (.cells #[.string ⟨#[]⟩, .int .i64 0, .int .i64 0, .slice none 0 0, .slice none 0 0, .slice none 0 0] 36)
  have n2 := heap_alloc_new W1 (.cells #[.string ⟨#[]⟩, .int .i64 0, .int .i64 0, .slice none 0 0, .slice none 0 0, .slice none 0 0] 36)
  have z2 : (W1.alloc (.cells #[.string ⟨#[]⟩, .int .i64 0, .int .i64 0, .slice none 0 0, .slice none 0 0, .slice none 0 0] 36)).heap.size = w.heap.size + 2 := by simp; omega
  obtain ⟨W2, hW2⟩ : ∃ W2, W1.alloc (.cells #[.string ⟨#[]⟩, .int .i64 0, .int .i64 0, .slice none 0 0, .slice none 0 0, .slice none 0 0] 36) = W2 := ⟨_, rfl⟩
  rw [hW2] at a2 n2 z2
  rw [z1] at n2
  have e1 := (a2.block w.heap.size (by omega)).trans n1
  have lo := a1.trans (a2.mono (by omega))
  have HCP := Lib.hid (copyC x.sz x (Nat.le_refl _) hok S W2 c0 c1 c2 c3 c4 (ObR.keep (fun g hg => lo.block g (hS g hg)) (fun _ h => h) x hx) (fun g hg => by have := hS g hg; omega))
  have k0 : W2.cell? ⟨w.heap.size, 0, none⟩ = some c0 := cell_of_row _ _ 0 _ _ (0, 0) e1
  have k1 : W2.cell? ⟨w.heap.size, 1, none⟩ = some c1 := cell_of_row _ _ 1 _ _ (0, 0) e1
  have k2 : W2.cell? ⟨w.heap.size, 2, none⟩ = some c2 := cell_of_row _ _ 2 _ _ (0, 0) e1
  have k3 : W2.cell? ⟨w.heap.size, 3, none⟩ = some c3 := cell_of_row _ _ 3 _ _ (0, 0) e1
  have k4 : W2.cell? ⟨w.heap.size, 4, none⟩ = some c4 := cell_of_row _ _ 4 _ _ (0, 0) e1
  have HN2 := Lib.hid n2
  have HLO := Lib.hid lo
  have HZ2 := Lib.hid z2
  have HW1 := Lib.hid hW1
  have HW2 := Lib.hid hW2
  have HZ1 := Lib.hid z1
  clear a1 a2 n1 n2 z1 z2 e1 lo hW1 hW2 hx hS hok
  go_enter Tryd.func10, Tryd.ntmps10
  go_upto_region 1 with fail
  rw [HW1.out, HW2.out]
  go_wp2_with (go_at_call 18; (with_reducible refine HCP.out.mono ?_); (rintro r w3 ⟨d0, d1, d2, d3, d4, rfl, hx3, hb3⟩); (obtain ⟨k9, n9, A29, m29, c29, A39, m39, c39, A49, m49, c49, rfl, rfl, rfl, rfl, rfl⟩ := hx3.form); have HX3 := Lib.hid hx3; have HN3 := Lib.hid (blk_keep9 hb3 HN2.out); have HB3 := Lib.hid (HLO.out.trans (hb3.mono HLO.out.size)); (have r0 : w3.cell? ⟨w.heap.size + 1, 0, none⟩ = some _ := cell_of_row _ _ 0 _ _ (0, 0) HN3.out); (have r1 : w3.cell? ⟨w.heap.size + 1, 1, none⟩ = some _ := cell_of_row _ _ 1 _ _ (0, 0) HN3.out); (have r2 : w3.cell? ⟨w.heap.size + 1, 2, none⟩ = some _ := cell_of_row _ _ 2 _ _ (0, 0) HN3.out); (have r3 : w3.cell? ⟨w.heap.size + 1, 3, none⟩ = some _ := cell_of_row _ _ 3 _ _ (0, 0) HN3.out); (have r4 : w3.cell? ⟨w.heap.size + 1, 4, none⟩ = some _ := cell_of_row _ _ 4 _ _ (0, 0) HN3.out); (have r5 : w3.cell? ⟨w.heap.size + 1, 5, none⟩ = some _ := cell_of_row _ _ 5 _ _ (0, 0) HN3.out); (have rf : ∀ i, w3.frozen? ⟨w.heap.size + 1, i, none⟩ = false := fun i => by have := HN3.out; simp [World.frozen?, this]); clear hx3 hb3 HCP k0 k1 k2 k3 k4)
  refine bodyPost_ret (results_cell_row rfl _ _ (w.heap.size + 1) 36 _ (0, 0) _ rfl (set6_row HN3.out) Tryd.underlying36 rfl (by kernel_rfl)) rfl ?_
  exact ⟨_, _, _, _, _, rfl, ObR.keep (fun g hg => heap_set6 (by have := hg.1; have := HZ2.out; omega)) (fun g hg => ⟨by have := hg.1; have := HZ2.out; omega, by rw [size_set6]; exact hg.2⟩) _ HX3.out, below_set6 HB3.out (by omega)⟩
end

section
open Go.RowKit
set_option linter.unusedVariables false
set_option maxRecDepth 100000
theorem app_toL : ∀ (l r : Ens), (l.app r).toL = l.toL ++ r.toL
  | .nil, r => rfl
  | .cons s x xs, r => by rw [Ens.app, Ens.toL, Ens.toL, app_toL xs r]; rfl
/-- What rises stays as it is. -/
theorem dict_sorted : ∀ (d acc : Ens), SS (acc.toL ++ d.toL) → (∀ p ∈ d.toL, p.2.kind ≠ 0) → (dictF d acc).toL = acc.toL ++ d.toL
  | .nil, acc, hS, hk => by rw [dictF, Ens.toL, List.append_nil]
  | .cons s x xs, acc, hS, hk => by
    rw [Ens.toL] at hS hk ⊢
    have hA : SS acc.toL := (List.pairwise_append.1 hS).1
    have hB : ∀ p ∈ acc.toL, ltS p.1 s = true := fun p hp => (List.pairwise_append.1 hS).2.2 p hp (s, x) (List.mem_cons_self ..)
    rw [dictF, decide_eq_false (hk (s, x) (List.mem_cons_self ..))]
    have hw : (withE s x acc false).toL = acc.toL ++ [(s, x)] := by
      rw [with_false s x acc hA, List.filter_eq_self.2 (fun p hp => hB p hp), List.filter_eq_nil_iff.2 (fun p hp h => by
        have h1 := ltS_trans (hB p hp) h
        rw [ltS_irrefl] at h1; cases h1)]
    rw [dict_sorted xs _ (by rw [hw, List.append_assoc]; exact hS) (fun p hp => hk p (List.mem_cons_of_mem _ hp)), hw, List.append_assoc]
    rfl
theorem mayE_kinds : ∀ (d : Ens) (pv : Option ByteArray) (e : Int), mayE d pv e = true → ∀ p ∈ d.toL, p.2.kind ≠ 0
  | .nil, pv, e, h, p, hp => by cases hp
  | .cons s x xs, pv, e, h, p, hp => by
    rw [mayE] at h
    split at h
    · rename_i h1
      rw [Ens.toL] at hp
      rcases List.mem_cons.1 hp with rfl | hp
      · exact h1.2.2.2.1
      · exact mayE_kinds xs (some s) e h p hp
    · cases h
theorem dict_self13 {d : Ens} {e : Int} (h : mayE d none e = true) : dictF d .nil = d := by
  have h1 := dict_sorted d .nil (by simpa [Ens.toL] using (mayE_ss d none e h).1) (mayE_kinds d none e h)
  rw [← Ens.of_to (dictF d .nil), h1]
  simp [Ens.toL, Ens.of_to]
end
end Go.Proofs.YtliieeagbpmcgaaDoor
