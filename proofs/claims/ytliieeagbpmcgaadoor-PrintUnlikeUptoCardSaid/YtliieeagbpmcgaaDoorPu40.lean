/- Contracts of functions that the law calls, and what they lean on (a part). -/
import Derived.Test.YtliieeagbpmcgaaDoorPu36
import Derived.Test.YtliieeagbpmcgaaDoorPu37
namespace Go.Proofs.YtliieeagbpmcgaaDoor
section
open Go.RowKit Go.Sort
set_option linter.unusedVariables false
set_option maxRecDepth 100000
/-- A place: the object's cells, how far one is, what is still to come. -/
structure Fr where
  d0 : Value
  d1 : Value
  d2 : Value
  d3 : Value
  d4 : Value
  i : Nat
  ys : List Part
theorem infoPl : (Tryd.prog.info? 60).map (fun i => (i.zero, i.size, i.bytes)) = some (some (.agg #[.int .i64 0, .int .i64 0, .slice none 0 0, .slice none 0 0, .slice none 0 0, .int .i64 0]), 6, 96) := by kernel_rfl
def PlC : List Fr → List Value → Prop
  | [], cs => cs = []
  | f :: fs, cs => ∃ rest, cs = rest ++ [f.d0, f.d1, f.d2, f.d3, f.d4, .int .i64 f.i] ∧ PlC fs rest
def PlS (w : World) (base : Nat) (v : Value) (st : List Fr) : Prop := ∃ cs, w.ownsRow base 60 6 v st.length cs ∧ PlC st cs
section
variable {w w' : World} {base : Nat} {v : Value} {st : List Fr}
theorem PlS.same (h : PlS w base v st) (hk : ∀ b, v.ownBlock = some b → w'.heap[b]? = w.heap[b]?) : PlS w' base v st := by
  obtain ⟨cs, h1, h2⟩ := h
  exact ⟨cs, row_sameN h1 hk, h2⟩
theorem PlS.lt (h : PlS w base v st) (b : Nat) (hb : v.ownBlock = some b) : b < w.heap.size ∧ base ≤ b := by
  obtain ⟨cs, h1, h2⟩ := h
  exact row_ltN h1 b hb
theorem PlS.tag (h : PlS w base v st) (b : Nat) (hb : v.ownBlock = some b) : ∃ cur, w.heap[b]? = some (.cells cur 60 (0, 0)) := by
  obtain ⟨cs, h1, h2⟩ := h
  rcases h1.2 with ⟨rfl, _⟩ | ⟨b', cap, cur, rfl, h2, hh, _⟩
  · cases hb
  · injection hb with hb
    dsimp only at hb
    subst hb
    exact ⟨cur, hh⟩
theorem PlS.low (h : PlS w base v st) (hb : Below w.heap.size w w') : PlS w' base v st := h.same fun b hb' => hb.block b (h.lt b hb').1
theorem PlS.shape (h : PlS w base v st) : ∃ A c, v = .slice A st.length c := by
  obtain ⟨cs, h1, h2⟩ := h
  obtain ⟨A, c, e, _⟩ := row_shapeN h1
  exact ⟨A, c, e⟩
/-- The top one, and the others. -/
theorem PlS.top {f : Fr} (h : PlS w base v (f :: st)) : ∃ g c, v = .slice (some ⟨g, 0, none⟩) (st.length + 1) c ∧ base ≤ g ∧ g < w.heap.size ∧ PlS w base (.slice (some ⟨g, 0, none⟩) st.length c) st ∧ (st.length + 1 ≤ c ∧ c ≤ 9223372036854775807) ∧
    (w.cell? ⟨g, st.length * 6, none⟩ = some f.d0 ∧ w.cell? ⟨g, st.length * 6 + 1, none⟩ = some f.d1 ∧ w.cell? ⟨g, st.length * 6 + 2, none⟩ = some f.d2 ∧ w.cell? ⟨g, st.length * 6 + 3, none⟩ = some f.d3 ∧ w.cell? ⟨g, st.length * 6 + 4, none⟩ = some f.d4 ∧ w.cell? ⟨g, st.length * 6 + 5, none⟩ = some (.int .i64 f.i)) ∧
    ∀ w', w'.heap[g]? = (w.setCell ⟨g, st.length * 6 + 5, none⟩ (.int .i64 ((f.i + 1 : Nat) : Int))).heap[g]? → PlS w' base v ({ f with i := f.i + 1 } :: st) := by
  obtain ⟨cs, h1, h2⟩ := h
  obtain ⟨rest, rfl, hr⟩ := h2
  rw [List.length_cons] at h1
  have hl := h1.1
  have hrl : rest.length = st.length * 6 := by simp at hl; omega
  obtain ⟨A, c, rfl, hc, hg⟩ := row_shapeN h1
  obtain ⟨g, rfl, hbg, hgw, hcell⟩ := hg (by omega)
  have at_ : ∀ j u, [f.d0, f.d1, f.d2, f.d3, f.d4, Value.int .i64 f.i][j]? = some u → w.cell? ⟨g, st.length * 6 + j, none⟩ = some u := fun j u hj => by
    have := hcell (st.length * 6 + j) u (by rw [← hrl, List.getElem?_append_right (by omega), Nat.add_sub_cancel_left]; exact hj)
    rw [Nat.zero_add] at this; exact this
  refine ⟨g, c, rfl, hbg, hgw, ⟨rest, ⟨hrl, ?_⟩, hr⟩, hc, ⟨at_ 0 _ rfl, at_ 1 _ rfl, at_ 2 _ rfl, at_ 3 _ rfl, at_ 4 _ rfl, at_ 5 _ rfl⟩, fun w' hw' => ⟨rest ++ [f.d0, f.d1, f.d2, f.d3, f.d4, .int .i64 ((f.i + 1 : Nat) : Int)], ⟨by simp [hrl]; omega, ?_⟩, rest, rfl, hr⟩⟩
  · rcases h1.2 with ⟨h0, _⟩ | ⟨g2, cap, cur, ev, hb, hh, hcp, hm, hs, ht⟩
    · cases h0
    · injection ev with a1 a2 a3
      injection a1 with a1
      injection a1 with a1
      subst a1 a3
      refine .inr ⟨g, c, cur, rfl, hb, hh, by omega, hm, hs, ?_⟩
      have := congrArg (List.take rest.length) ht
      rw [List.take_take, List.take_left] at this
      rw [← hrl]
      rw [show min rest.length ((st.length + 1) * 6) = rest.length by omega] at this
      exact this
  · rcases h1.2 with ⟨h0, _⟩ | ⟨g2, cap, cur, ev, hb, hh, hcp, hm, hs, ht⟩
    · cases h0
    · injection ev with a1 a2 a3
      injection a1 with a1
      injection a1 with a1
      subst a1 a3
      refine .inr ⟨g, c, cur.set! (st.length * 6 + 5) (.int .i64 ((f.i + 1 : Nat) : Int)), rfl, hb, hw'.trans ?_, hcp, hm, by simpa using hs, ?_⟩
      · simp [World.setCell, Array.getElem?_modify, hh]
      · have e2 : rest ++ [f.d0, f.d1, f.d2, f.d3, f.d4, Value.int .i64 ((f.i + 1 : Nat) : Int)] = (rest ++ [f.d0, f.d1, f.d2, f.d3, f.d4, Value.int .i64 f.i]).set (st.length * 6 + 5) (.int .i64 ((f.i + 1 : Nat) : Int)) := by
          rw [List.set_append_right _ _ (by omega), hrl, Nat.add_sub_cancel_left]
          rfl
        rw [List.length_cons, e2, ← ht]
        simp [List.take_set]
/-- One more, out of a literal. -/
theorem PlS.push (h : PlS w base v st) (f : Fr) (hi : f.i = 0) (ho : f.d0.oneCell' = true ∧ f.d1.oneCell' = true ∧ f.d2.oneCell' = true ∧ f.d3.oneCell' = true ∧ f.d4.oneCell' = true) (hl : st.length ≤ 100000000) (hbase : base ≤ w.heap.size) :
    ∃ A c w'', (Builtin.append_ #[61, 61] 61 #[v, .slice (some ⟨w.heap.size, 0, none⟩) 1 1]).run Tryd.prog (w.alloc (.cells #[f.d0, f.d1, f.d2, f.d3, f.d4, .int .i64 0] 60)) = .ok (.slice A (st.length + 1) c) w'' ∧ PlS w'' base (.slice A (st.length + 1) c) (f :: st) ∧ w.grownBy w'' v.ownBlock := by
  have hb1 : Below w.heap.size w (w.alloc (.cells #[f.d0, f.d1, f.d2, f.d3, f.d4, .int .i64 0] 60)) := (Below.refl _ _).alloc (Nat.le_refl _) _
  have hn := heap_alloc_new w (.cells #[f.d0, f.d1, f.d2, f.d3, f.d4, .int .i64 0] 60)
  have hga : w.grownBy (w.alloc (.cells #[f.d0, f.d1, f.d2, f.d3, f.d4, .int .i64 0] 60)) v.ownBlock := World.grownBy_alloc _ _ _
  obtain ⟨cs, hr, hc⟩ := h.low hb1
  obtain ⟨i0, hi0, hz0, hz1, hz2⟩ := info_parts infoPl
  obtain ⟨o0, o1, o2, o3, o4⟩ := ho
  obtain ⟨W1, hW1⟩ : ∃ W1, w.alloc (.cells #[f.d0, f.d1, f.d2, f.d3, f.d4, .int .i64 0] 60) = W1 := ⟨_, rfl⟩
  rw [hW1] at hb1 hn hr hga ⊢
  obtain ⟨v', w'', hrun, hown, hgr, _, hat⟩ := run_append_own_at (P := Tryd.prog) W1 base 61 61 60 i0 _ 6 96 Tryd.underlying61 hi0 hz0 hz1 hz2 rfl (by omega) v st.length cs hr ⟨w.heap.size, 0, none⟩ 1 1 [f.d0, f.d1, f.d2, f.d3, f.d4, .int .i64 0] rfl
    (by
      intro j u hj
      have e : (⟨w.heap.size, 0, none⟩ : Addr).add j = ⟨w.heap.size, 0 + j, none⟩ := by unfold Addr.add; split <;> simp_all
      rw [Nat.zero_add] at e
      rw [e, cell_of_row _ _ j _ _ (0, 0) hn]
      simpa using hj)
    (by
      intro u hu
      simp only [List.mem_cons, List.not_mem_nil, or_false] at hu
      rcases hu with rfl | rfl | rfl | rfl | rfl | rfl <;> first | assumption | rfl) (by simp only [maxLen]; omega) (by omega) (Nat.le_trans hbase hb1.size)
  obtain ⟨A, c, rfl⟩ := own_slice hown
  refine ⟨A, c, w'', hrun, ⟨cs ++ [f.d0, f.d1, f.d2, f.d3, f.d4, .int .i64 0], hown, cs, by rw [hi]; rfl, hc⟩, ?_⟩
  exact ⟨hgr.os.trans hga.os, hgr.tape.trans hga.tape, hgr.output.trans hga.output, Nat.le_trans hga.size hgr.size, fun k hk hne => (hgr.block k (Nat.lt_of_lt_of_le hk hga.size) hne).trans (hga.block k hk hne)⟩
end
/-- What is still to come from a place, in the old memory. -/
def FrR (w : World) (S : Nat → Prop) (a : Nat) (f : Fr) : Prop :=
  ∃ A3 m3 c3 A4 m4 c4, f.d3 = .slice A3 m3 c3 ∧ f.d4 = .slice A4 m4 c4 ∧ (m3 ≤ c3 ∧ c3 ≤ 9223372036854775807) ∧ (m4 ≤ c4 ∧ c4 ≤ 9223372036854775807) ∧ (m3 ≤ 100000000 ∧ m4 ≤ 100000000 ∧ f.i ≤ 100000000) ∧
    ((m3 ≤ f.i ∧ m4 ≤ f.i ∧ f.ys = [])
    ∨ (∃ l g o, m3 = f.i + l.len ∧ 0 < l.len ∧ m4 = 0 ∧ A3 = some ⟨g, o, none⟩ ∧ S g ∧ WkL w S a l g (o + f.i * 5) f.ys)
    ∨ (∃ d g o, m4 = f.i + d.len ∧ 0 < d.len ∧ m3 = 0 ∧ A4 = some ⟨g, o, none⟩ ∧ S g ∧ WkE w S a d g (o + f.i * 6) f.ys))
/-- All that is still to come. -/
def Rest (st : List Fr) : List Part := st.flatMap (·.ys)
def FrsR (w : World) (S : Nat → Prop) : List Fr → Prop
  | [] => True
  | f :: fs => FrR w S (fs.length + 1) f ∧ FrsR w S fs
theorem wkL_one {w : World} {S : Nat → Prop} {a g o : Nat} {l : Obs} {ys : List Part} (h : WkL w S a l g o ys) (h0 : 0 < l.len) : ∃ x xs y1 y2 p, l = .cons x xs ∧ ys = p :: (y1 ++ y2) ∧ p.a = a ∧ p.x = x ∧
    (w.cell? ⟨g, o, none⟩ = some p.c0 ∧ w.cell? ⟨g, o + 1, none⟩ = some p.c1 ∧ w.cell? ⟨g, o + 2, none⟩ = some p.c2 ∧ w.cell? ⟨g, o + 3, none⟩ = some p.c3 ∧ w.cell? ⟨g, o + 4, none⟩ = some p.c4) ∧ ObR w S x p.c0 p.c1 p.c2 p.c3 p.c4 ∧ (okO x ∧ a + htO x ≤ 100000000) ∧ WkO w S a x p.c3 p.c4 y1 ∧ WkL w S a xs g (o + 5) y2 := by
  cases l with
  | nil => rw [Obs.len] at h0; omega
  | cons x xs =>
    unfold WkL at h
    obtain ⟨c0, c1, c2, c3, c4, y1, y2, hc, hx, hk, h1, h2, rfl⟩ := h
    exact ⟨x, xs, y1, y2, ⟨a, x, c0, c1, c2, c3, c4⟩, rfl, rfl, rfl, rfl, hc, hx, hk, h1, h2⟩
theorem wkE_one {w : World} {S : Nat → Prop} {a g o : Nat} {l : Ens} {ys : List Part} (h : WkE w S a l g o ys) (h0 : 0 < l.len) : ∃ s x xs y1 y2 p, l = .cons s x xs ∧ ys = p :: (y1 ++ y2) ∧ p.a = a ∧ p.x = x ∧
    (w.cell? ⟨g, o + 1, none⟩ = some p.c0 ∧ w.cell? ⟨g, o + 2, none⟩ = some p.c1 ∧ w.cell? ⟨g, o + 3, none⟩ = some p.c2 ∧ w.cell? ⟨g, o + 4, none⟩ = some p.c3 ∧ w.cell? ⟨g, o + 5, none⟩ = some p.c4) ∧ ObR w S x p.c0 p.c1 p.c2 p.c3 p.c4 ∧ (okO x ∧ a + htO x ≤ 100000000) ∧ WkO w S a x p.c3 p.c4 y1 ∧ WkE w S a xs g (o + 6) y2 := by
  cases l with
  | nil => rw [Ens.len] at h0; omega
  | cons s x xs =>
    unfold WkE at h
    obtain ⟨c0, c1, c2, c3, c4, y1, y2, hc, hx, hk, h1, h2, rfl⟩ := h
    exact ⟨s, x, xs, y1, y2, ⟨a, x, c0, c1, c2, c3, c4⟩, rfl, rfl, rfl, rfl, ⟨hc.2.1, hc.2.2.1, hc.2.2.2.1, hc.2.2.2.2.1, hc.2.2.2.2.2⟩, hx, hk, h1, h2⟩
/-- The place of an object that is used as its kind uses it. -/
theorem used_fr {w : World} {S : Nat → Prop} {x : Ob} {a : Nat} {c0 c1 c2 c3 c4 : Value} {ys : List Part} (hx : ObR w S x c0 c1 c2 c3 c4) (hok : okO x) (hy : WkO w S a x c3 c4 ys) : ∃ (k n : Int) (B2 : Option Addr) (p2 q2 : Nat) (B3 : Option Addr) (p3 q3 : Nat) (B4 : Option Addr) (p4 q4 : Nat), FrR w S (a + 1) ⟨.int .i64 k, .int .i64 n, .slice B2 p2 q2, .slice B3 p3 q3, .slice B4 p4 q4, 0, ys⟩ ∧
    ∀ W, Calls Tryd.prog 32 #[.agg #[c0, c1, c2, c3, c4]] W fun e w' => e = .returned (.agg #[.int .i64 k, .int .i64 n, .slice B2 p2 q2, .slice B3 p3 q3, .slice B4 p4 q4]) ∧ Below W.heap.size W w' := by
  obtain ⟨k, n, b, l, d⟩ := x
  unfold ObR at hx
  obtain ⟨rfl, rfl, -, -, ⟨A2, m2, c2', rfl, hb⟩, ⟨A3, c3', rfl, hc3, h3⟩, ⟨A4, c4', rfl, hc4, h4⟩⟩ := hx
  have hu := usedC k n A2 A3 A4 m2 c2' l.len c3' d.len c4'
  unfold okO at hok
  have hll := hok.2.1
  have hdl := hok.2.2.1
  unfold WkO at hy
  unfold usedV at hu
  have hmx : (0 : Nat) ≤ 0 ∧ (0 : Nat) ≤ 9223372036854775807 := by omega
  by_cases h6 : k = 6
  · subst h6
    rw [if_pos rfl] at hy
    obtain ⟨A, m, c, g, o, e, rfl, hcc, hgo, hw⟩ := hy
    injection e with e1 e2 e3
    subst e1 e3
    rw [if_neg (by decide), if_neg (by decide), if_pos rfl] at hu
    refine ⟨6, 0, none, 0, 0, A3, l.len, c3', none, 0, 0, ⟨A3, l.len, c3', none, 0, 0, rfl, rfl, hcc, hmx, ⟨hll, by omega, Nat.zero_le _⟩, ?_⟩, hu⟩
    rcases Nat.eq_zero_or_pos l.len with h0 | h0
    · have hn : l = .nil := by cases l with | nil => rfl | cons x xs => rw [Obs.len] at h0; omega
      subst hn
      unfold WkL at hw
      exact .inl ⟨Nat.le_refl _, Nat.le_refl _, hw⟩
    · obtain ⟨hA, hg⟩ := hgo h0
      exact .inr (.inl ⟨l, g, o, by simp, h0, rfl, hA, hg, hw⟩)
  · rw [if_neg h6] at hy
    by_cases h78 : k = 7 ∨ k = 8
    · rw [if_pos h78] at hy
      obtain ⟨A, m, c, g, o, e, rfl, hcc, hgo, hw⟩ := hy
      injection e with e1 e2 e3
      subst e1 e3
      have hfin : ∀ d0 d1 d2 : Value, FrR w S (a + 1) ⟨d0, d1, d2, nilV, .slice A4 d.len c4', 0, ys⟩ := fun d0 d1 d2 => by
        refine ⟨none, 0, 0, A4, d.len, c4', rfl, rfl, hmx, hcc, ⟨by omega, hdl, Nat.zero_le _⟩, ?_⟩
        rcases Nat.eq_zero_or_pos d.len with h0 | h0
        · have hn : d = .nil := by cases d with | nil => rfl | cons s x xs => rw [Ens.len] at h0; omega
          subst hn
          unfold WkE at hw
          exact .inl ⟨Nat.le_refl _, Nat.le_refl _, hw⟩
        · obtain ⟨hA, hg⟩ := hgo h0
          exact .inr (.inr ⟨d, g, o, by simp, h0, rfl, hA, hg, hw⟩)
      rcases h78 with rfl | rfl
      · rw [if_neg (by decide), if_neg (by decide), if_neg (by decide), if_pos rfl] at hu
        exact ⟨7, 0, none, 0, 0, none, 0, 0, A4, d.len, c4', hfin _ _ _, hu⟩
      · rw [if_neg (by decide), if_neg (by decide), if_neg (by decide), if_neg (by decide), if_pos rfl] at hu
        exact ⟨8, 0, A2, m2, c2', none, 0, 0, A4, d.len, c4', hfin _ _ _, hu⟩
    · rw [if_neg h78] at hy
      subst hy
      have hfin : ∀ d0 d1 d2 : Value, FrR w S (a + 1) ⟨d0, d1, d2, nilV, nilV, 0, []⟩ := fun d0 d1 d2 => ⟨none, 0, 0, none, 0, 0, rfl, rfl, hmx, hmx, ⟨by omega, by omega, Nat.zero_le _⟩, .inl ⟨Nat.le_refl _, Nat.le_refl _, rfl⟩⟩
      by_cases h1 : k = 1 ∨ k = 2 ∨ k = 3 ∨ k = 9
      · rw [if_pos h1] at hu
        exact ⟨k, n, none, 0, 0, none, 0, 0, none, 0, 0, hfin _ _ _, hu⟩
      · rw [if_neg h1] at hu
        by_cases h45 : k = 4 ∨ k = 5
        · rw [if_pos h45] at hu
          exact ⟨k, 0, A2, m2, c2', none, 0, 0, none, 0, 0, hfin _ _ _, hu⟩
        · rw [if_neg h45, if_neg h6, if_neg (by omega), if_neg (by omega)] at hu
          exact ⟨0, 0, none, 0, 0, none, 0, 0, none, 0, 0, hfin _ _ _, hu⟩
/-- The first one, out of a literal. -/
theorem PlS.start {w : World} {base : Nat} (f : Fr) (hi : f.i = 0) (hb : base ≤ w.heap.size) : PlS (w.alloc (.cells #[f.d0, f.d1, f.d2, f.d3, f.d4, .int .i64 0] 60)) base (.slice (some ⟨w.heap.size, 0, none⟩) 1 1) [f] :=
  ⟨[f.d0, f.d1, f.d2, f.d3, f.d4, .int .i64 0], ⟨rfl, .inr ⟨w.heap.size, 1, _, rfl, hb, heap_alloc_new w _, Nat.le_refl _, by decide, rfl, rfl⟩⟩, [], by rw [hi]; rfl, rfl⟩
end

section
open Go.RowKit Go.Sort
set_option linter.unusedVariables false
set_option maxRecDepth 100000
theorem results_row_tmp14 {P : Program} {fn : Func} {p u : Tmp} {ty : TypeId} (h : fn.results = #[.cell p ty, .tmp u]) (tmps : Array Value) (w : World) (g : Nat) (t : TypeId) (cs : Array Value) (fr : Nat × Nat) (d : TypeDesc)
    (hp : tmps.getD p undef = .pointer (some ⟨g, 0, none⟩)) (hg : w.heap[g]? = some (.cells cs t fr))
    (hu : P.underlying ty = some d) (hd : (match d with | .struct _ | .array _ _ => true | _ => false) = true) (hi : (P.info? ty).map (·.size) = some cs.size) (x : Value) (hx : tmps.getD u undef = x) :
    (results fn tmps).run P w = .ok (.tuple #[.agg cs, x]) w := by
  have hp' : tmps[p]?.getD undef = .pointer (some ⟨g, 0, none⟩) := by simpa using hp
  have hx' : tmps[u]?.getD undef = x := by simpa using hx
  simp [results, h, hp', hx', asAddr, run_loadVar_row w g t ty cs fr d hg hu hd hi]
/-- What next leaves: the place's number, nothing else of what was there. -/
structure NxK (w : World) (G q i : Nat) (w' : World) : Prop where
  os : w'.os = w.os
  tape : w'.tape = w.tape
  output : w'.output = w.output
  size : w.heap.size ≤ w'.heap.size
  block : ∀ b, b < w.heap.size → w'.heap[b]? = (w.setCell ⟨G, q + 5, none⟩ (.int .i64 ((i + 1 : Nat) : Int))).heap[b]?
/-- The world behind the number's store. -/
structure NxW (w : World) (G q i : Nat) (A3 A4 : Option Addr) (m3 c3 m4 c4 : Nat) (W : World) : Prop where
  keep : NxK w G q i W
  size1 : W.heap.size = w.heap.size + 1
  row : W.heap[w.heap.size]? = some (.cells #[.int .i64 0, .int .i64 0, .slice none 0 0, .slice none 0 0, .slice none 0 0] 26 (0, 0))
  k3 : W.cell? ⟨G, q + 3, none⟩ = some (.slice A3 m3 c3)
  k4 : W.cell? ⟨G, q + 4, none⟩ = some (.slice A4 m4 c4)
  oth : ∀ g o, g ≠ G → g < w.heap.size → W.cell? ⟨g, o, none⟩ = w.cell? ⟨g, o, none⟩
theorem NxW.mk_ {G q i : Nat} {A3 A4 : Option Addr} {m3 c3 m4 c4 : Nat} {w : World} (hG : G < w.heap.size)
    (k3 : w.cell? ⟨G, q + 3, none⟩ = some (.slice A3 m3 c3)) (k4 : w.cell? ⟨G, q + 4, none⟩ = some (.slice A4 m4 c4)) : NxW w G q i A3 A4 m3 c3 m4 c4 ((w.setCell ⟨G, q + 5, none⟩ (.int .i64 ((i : Int) + 1))).alloc (.cells #[.int .i64 0, .int .i64 0, .slice none 0 0, .slice none 0 0, .slice none 0 0] 26)) := by
  have e1 : ((i + 1 : Nat) : Int) = (i : Int) + 1 := by omega
  have hsz : (w.setCell ⟨G, q + 5, none⟩ (.int .i64 ((i : Int) + 1))).heap.size = w.heap.size := by simp [World.setCell]
  have hb := (Below.refl w.heap.size (w.setCell ⟨G, q + 5, none⟩ (.int .i64 ((i : Int) + 1)))).alloc (by rw [hsz]; exact Nat.le_refl _) (.cells #[.int .i64 0, .int .i64 0, .slice none 0 0, .slice none 0 0, .slice none 0 0] 26)
  have hc : ∀ j, j ≠ 5 → ((w.setCell ⟨G, q + 5, none⟩ (.int .i64 ((i : Int) + 1))).alloc (.cells #[.int .i64 0, .int .i64 0, .slice none 0 0, .slice none 0 0, .slice none 0 0] 26)).cell? ⟨G, q + j, none⟩ = w.cell? ⟨G, q + j, none⟩ := fun j hj =>
    (World.cell?_of_block (a := ⟨G, q + j, none⟩) (hb.block G hG)).trans (World.cell?_setCell_other _ _ _ _ (fun e => by injection e with _ e2 _; omega))
  refine ⟨⟨rfl, rfl, rfl, by rw [World.size_alloc, hsz]; omega, fun b hb' => by rw [e1]; exact hb.block b hb'⟩, by rw [World.size_alloc, hsz], by have := heap_alloc_new (w.setCell ⟨G, q + 5, none⟩ (.int .i64 ((i : Int) + 1))) (.cells #[.int .i64 0, .int .i64 0, .slice none 0 0, .slice none 0 0, .slice none 0 0] 26); rw [hsz] at this; exact this, (hc 3 (by omega)).trans k3, (hc 4 (by omega)).trans k4, fun g o hg hl => ?_⟩
  exact (World.cell?_of_block (a := ⟨g, o, none⟩) (hb.block g hl)).trans (World.cell?_setCell_other _ _ _ _ (fun e => by injection e with e2 _ _; omega))
/-- It is kept where blocks from its end on are turned. -/
theorem NxK.on {w W W' : World} {G q i : Nat} (h : NxK w G q i W) (hb : Below w.heap.size W W') : NxK w G q i W' :=
  ⟨hb.os.trans h.os, hb.tape.trans h.tape, hb.output.trans h.output, Nat.le_trans h.size hb.size, fun b hb' => (hb.block b hb').trans (h.block b hb')⟩
theorem NxK.grown {w W : World} {G q i : Nat} (h : NxK w G q i W) : w.grownBy W (some G) :=
  ⟨h.os, h.tape, h.output, h.size, fun b hb hne => (h.block b hb).trans (set_blk9 w G (q + 5) b _ (fun e => hne (by rw [e])))⟩
section
variable {G q i : Nat} {A3 A4 : Option Addr} {m3 c3 m4 c4 : Nat} {w : World}
set_option maxHeartbeats 4000000 in
theorem nextEnd (h3 : m3 ≤ i) (h4 : m4 ≤ i) (hi : i ≤ 100000000) (hG : G < w.heap.size)
    (k3 : w.cell? ⟨G, q + 3, none⟩ = some (.slice A3 m3 c3)) (k4 : w.cell? ⟨G, q + 4, none⟩ = some (.slice A4 m4 c4)) (k5 : w.cell? ⟨G, q + 5, none⟩ = some (.int .i64 i)) (hf : ∀ j, w.frozen? ⟨G, j, none⟩ = false) :
    Calls Tryd.prog 33 #[.pointer (some ⟨G, q, none⟩)] w fun e w' => e = .returned (.tuple #[.agg #[.int .i64 0, .int .i64 0, nilV, nilV, nilV], .bool false]) ∧ NxK w G q i w' := by
  have hN := NxW.mk_ (i := i) hG k3 k4
  obtain ⟨W2, hW2⟩ : ∃ W2, (w.setCell ⟨G, q + 5, none⟩ (.int .i64 ((i : Int) + 1))).alloc (.cells #[.int .i64 0, .int .i64 0, .slice none 0 0, .slice none 0 0, .slice none 0 0] 26) = W2 := ⟨_, rfl⟩
  rw [hW2] at hN
  have HN := Lib.hid hN
  have HW2 := Lib.hid hW2
  clear hN hW2
  go_enter Tryd.func33, Tryd.ntmps33
  go_upto_region 3 with fail
  rw [HW2.out]
  clear k3 k4 k5 hf
  have q3 := HN.out.k3
  have q4 := HN.out.k4
  have n3 : ¬ (i : Int) < (m3 : Int) := by omega
  have n4 : ¬ (i : Int) < (m4 : Int) := by omega
  go_wp2_with (go_at_call 44; refine (pNone0 _).mono ?_; (rintro r w3 ⟨rfl, hb3⟩); have HB3 := Lib.hid hb3; have HR3 := Lib.hid ((hb3.block w.heap.size (by rw [HN.out.size1]; omega)).trans HN.out.row); (obtain ⟨z0, z1, z2, z3, z4, z5⟩ := row5_cells HR3.out); clear hb3 q3 q4)
  refine bodyPost_ret (results_row_tmp14 rfl _ _ w.heap.size 26 _ (0, 0) _ rfl (set5_row HR3.out) Tryd.underlying26 rfl (by kernel_rfl) _ rfl) rfl ?_
  exact ⟨rfl, HN.out.keep.on (below_set5 (HB3.out.mono (by rw [HN.out.size1]; omega)) (Nat.le_refl _))⟩
set_option maxHeartbeats 4000000 in
theorem nextL {g o : Nat} {e0 e1 e2 e3 e4 : Value} (h3 : i < m3) (hm : m3 ≤ 100000000) (hG : G < w.heap.size) (hA : A3 = some ⟨g, o, none⟩) (hg : g ≠ G ∧ g < w.heap.size)
    (k3 : w.cell? ⟨G, q + 3, none⟩ = some (.slice A3 m3 c3)) (k4 : w.cell? ⟨G, q + 4, none⟩ = some (.slice A4 m4 c4)) (k5 : w.cell? ⟨G, q + 5, none⟩ = some (.int .i64 i)) (hf : ∀ j, w.frozen? ⟨G, j, none⟩ = false)
    (s0 : w.cell? ⟨g, o + i * 5, none⟩ = some e0) (s1 : w.cell? ⟨g, o + i * 5 + 1, none⟩ = some e1) (s2 : w.cell? ⟨g, o + i * 5 + 2, none⟩ = some e2) (s3 : w.cell? ⟨g, o + i * 5 + 3, none⟩ = some e3) (s4 : w.cell? ⟨g, o + i * 5 + 4, none⟩ = some e4)
    {w0 : World} {S : Nat → Prop} {x : Ob} (hob : ObR w0 S x e0 e1 e2 e3 e4) :
    Calls Tryd.prog 33 #[.pointer (some ⟨G, q, none⟩)] w fun e w' => e = .returned (.tuple #[.agg #[e0, e1, e2, e3, e4], .bool true]) ∧ NxK w G q i w' := by
  have hN := NxW.mk_ (i := i) hG k3 k4
  obtain ⟨W2, hW2⟩ : ∃ W2, (w.setCell ⟨G, q + 5, none⟩ (.int .i64 ((i : Int) + 1))).alloc (.cells #[.int .i64 0, .int .i64 0, .slice none 0 0, .slice none 0 0, .slice none 0 0] 26) = W2 := ⟨_, rfl⟩
  rw [hW2] at hN
  subst hA
  have r0 := (hN.oth g (o + i * 5) hg.1 hg.2).trans s0
  have r1 := (hN.oth g (o + i * 5 + 1) hg.1 hg.2).trans s1
  have r2 := (hN.oth g (o + i * 5 + 2) hg.1 hg.2).trans s2
  have r3 := (hN.oth g (o + i * 5 + 3) hg.1 hg.2).trans s3
  have r4 := (hN.oth g (o + i * 5 + 4) hg.1 hg.2).trans s4
  have HN := Lib.hid hN
  have HW2 := Lib.hid hW2
  obtain ⟨k9, n9, A29, m29, c29, A39, m39, c39, A49, m49, c49, rfl, rfl, rfl, rfl, rfl⟩ := hob.form
  clear hob
  clear hN hW2 s0 s1 s2 s3 s4
  go_enter Tryd.func33, Tryd.ntmps33
  go_upto_region 3 with fail
  rw [HW2.out]
  clear k3 k4 k5 hf
  have q3 := HN.out.k3
  have n3 : (i : Int) < (m3 : Int) := by omega
  obtain ⟨z0, z1, z2, z3, z4, z5⟩ := row5_cells HN.out.row
  go_wp2_with fail
  refine bodyPost_ret (results_row_tmp14 rfl _ _ w.heap.size 26 _ (0, 0) _ rfl (set5_row HN.out.row) Tryd.underlying26 rfl (by kernel_rfl) _ rfl) rfl ?_
  exact ⟨rfl, HN.out.keep.on (below_set5 (Below.refl _ _) (Nat.le_refl _))⟩
set_option maxHeartbeats 4000000 in
theorem nextE {g o : Nat} {e0 e1 e2 e3 e4 : Value} (h3 : m3 ≤ i) (h4 : i < m4) (hm : m4 ≤ 100000000) (hG : G < w.heap.size) (hA : A4 = some ⟨g, o, none⟩) (hg : g ≠ G ∧ g < w.heap.size)
    (k3 : w.cell? ⟨G, q + 3, none⟩ = some (.slice A3 m3 c3)) (k4 : w.cell? ⟨G, q + 4, none⟩ = some (.slice A4 m4 c4)) (k5 : w.cell? ⟨G, q + 5, none⟩ = some (.int .i64 i)) (hf : ∀ j, w.frozen? ⟨G, j, none⟩ = false)
    (s0 : w.cell? ⟨g, o + i * 6 + 1, none⟩ = some e0) (s1 : w.cell? ⟨g, o + i * 6 + 2, none⟩ = some e1) (s2 : w.cell? ⟨g, o + i * 6 + 3, none⟩ = some e2) (s3 : w.cell? ⟨g, o + i * 6 + 4, none⟩ = some e3) (s4 : w.cell? ⟨g, o + i * 6 + 5, none⟩ = some e4)
    {w0 : World} {S : Nat → Prop} {x : Ob} (hob : ObR w0 S x e0 e1 e2 e3 e4) :
    Calls Tryd.prog 33 #[.pointer (some ⟨G, q, none⟩)] w fun e w' => e = .returned (.tuple #[.agg #[e0, e1, e2, e3, e4], .bool true]) ∧ NxK w G q i w' := by
  have hN := NxW.mk_ (i := i) hG k3 k4
  obtain ⟨W2, hW2⟩ : ∃ W2, (w.setCell ⟨G, q + 5, none⟩ (.int .i64 ((i : Int) + 1))).alloc (.cells #[.int .i64 0, .int .i64 0, .slice none 0 0, .slice none 0 0, .slice none 0 0] 26) = W2 := ⟨_, rfl⟩
  rw [hW2] at hN
  subst hA
  have r0 := (hN.oth g (o + i * 6 + 1) hg.1 hg.2).trans s0
  have r1 := (hN.oth g (o + i * 6 + 2) hg.1 hg.2).trans s1
  have r2 := (hN.oth g (o + i * 6 + 3) hg.1 hg.2).trans s2
  have r3 := (hN.oth g (o + i * 6 + 4) hg.1 hg.2).trans s3
  have r4 := (hN.oth g (o + i * 6 + 5) hg.1 hg.2).trans s4
  have HN := Lib.hid hN
  have HW2 := Lib.hid hW2
  obtain ⟨k9, n9, A29, m29, c29, A39, m39, c39, A49, m49, c49, rfl, rfl, rfl, rfl, rfl⟩ := hob.form
  clear hob
  clear hN hW2 s0 s1 s2 s3 s4
  go_enter Tryd.func33, Tryd.ntmps33
  go_upto_region 3 with fail
  rw [HW2.out]
  clear k3 k4 k5 hf
  have q3 := HN.out.k3
  have q4 := HN.out.k4
  have n3 : ¬ (i : Int) < (m3 : Int) := by omega
  have n4 : (i : Int) < (m4 : Int) := by omega
  obtain ⟨z0, z1, z2, z3, z4, z5⟩ := row5_cells HN.out.row
  go_wp2_with fail
  refine bodyPost_ret (results_row_tmp14 rfl _ _ w.heap.size 26 _ (0, 0) _ rfl (set5_row HN.out.row) Tryd.underlying26 rfl (by kernel_rfl) _ rfl) rfl ?_
  exact ⟨rfl, HN.out.keep.on (below_set5 (Below.refl _ _) (Nat.le_refl _))⟩
end
/-- What next does at a place: nothing is left, or the next part. -/
theorem fr_next {w0 : World} {S : Nat → Prop} {a : Nat} {f : Fr} (hf : FrR w0 S a f) (h0 : ∀ g, S g → g < w0.heap.size) :
    (f.ys = [] ∧ ∀ (wr : World) (G q : Nat), G < wr.heap.size → wr.cell? ⟨G, q + 3, none⟩ = some f.d3 → wr.cell? ⟨G, q + 4, none⟩ = some f.d4 → wr.cell? ⟨G, q + 5, none⟩ = some (.int .i64 f.i) → (∀ j, wr.frozen? ⟨G, j, none⟩ = false) →
      Calls Tryd.prog 33 #[.pointer (some ⟨G, q, none⟩)] wr fun e w' => e = .returned (.tuple #[.agg #[.int .i64 0, .int .i64 0, nilV, nilV, nilV], .bool false]) ∧ NxK wr G q f.i w')
    ∨ ∃ p y1 y2, f.ys = p :: (y1 ++ y2) ∧ p.a = a ∧ ObR w0 S p.x p.c0 p.c1 p.c2 p.c3 p.c4 ∧ (okO p.x ∧ a + htO p.x ≤ 100000000) ∧ WkO w0 S a p.x p.c3 p.c4 y1 ∧ FrR w0 S a { f with i := f.i + 1, ys := y2 } ∧
      ∀ (wr : World) (G q : Nat), (∀ g, S g → wr.heap[g]? = w0.heap[g]?) → (∀ g, S g → g ≠ G ∧ g < wr.heap.size) → G < wr.heap.size → wr.cell? ⟨G, q + 3, none⟩ = some f.d3 → wr.cell? ⟨G, q + 4, none⟩ = some f.d4 → wr.cell? ⟨G, q + 5, none⟩ = some (.int .i64 f.i) → (∀ j, wr.frozen? ⟨G, j, none⟩ = false) →
        Calls Tryd.prog 33 #[.pointer (some ⟨G, q, none⟩)] wr fun e w' => e = .returned (.tuple #[.agg #[p.c0, p.c1, p.c2, p.c3, p.c4], .bool true]) ∧ NxK wr G q f.i w' := by
  obtain ⟨d0, d1, d2, d3, d4, i, fy⟩ := f
  obtain ⟨A3, m3, c3, A4, m4, c4, hd3, hd4, hc3, hc4, hbd, hcase⟩ := hf
  dsimp only at hd3 hd4 hbd hcase ⊢
  subst hd3 hd4
  rcases hcase with ⟨h3, h4, rfl⟩ | ⟨l, g2, o, rfl, hl0, rfl, rfl, hg2, hwk⟩ | ⟨d, g2, o, rfl, hl0, rfl, rfl, hg2, hwk⟩
  · exact .inl ⟨rfl, fun wr G q hG k3 k4 k5 hfz => nextEnd h3 h4 hbd.2.2 hG k3 k4 k5 hfz⟩
  · obtain ⟨x, xs, y1, y2, p, rfl, rfl, hpa, hpx, hcl, hob, hok, hw1, hw2⟩ := wkL_one hwk hl0
    refine .inr ⟨p, y1, y2, rfl, hpa, by rw [hpx]; exact hob, by rw [hpx]; exact hok, by rw [hpx]; exact hw1, ?_, fun wr G q hold hS hG k3 k4 k5 hfz => ?_⟩
    · refine ⟨some ⟨g2, o, none⟩, _, c3, A4, 0, c4, rfl, rfl, hc3, hc4, ⟨hbd.1, by omega, by have := hbd.1; rw [Obs.len] at this; dsimp only; omega⟩, ?_⟩
      rcases Nat.eq_zero_or_pos xs.len with h0 | h0
      · have hn : xs = .nil := by cases xs with | nil => rfl | cons y ys => rw [Obs.len] at h0; omega
        subst hn
        unfold WkL at hw2
        exact .inl ⟨by rw [Obs.len, Obs.len]; dsimp only; omega, Nat.zero_le _, hw2⟩
      · refine .inr (.inl ⟨xs, g2, o, by rw [Obs.len]; dsimp only; omega, h0, rfl, rfl, hg2, ?_⟩)
        dsimp only
        rw [show o + (i + 1) * 5 = o + i * 5 + 5 by omega]
        exact hw2
    · have e := fun j => World.cell?_of_block (a := ⟨g2, j, none⟩) (hold g2 hg2)
      exact nextL (by rw [Obs.len]; omega) hbd.1 hG rfl (hS g2 hg2) k3 k4 k5 hfz ((e _).trans hcl.1) ((e _).trans hcl.2.1) ((e _).trans hcl.2.2.1) ((e _).trans hcl.2.2.2.1) ((e _).trans hcl.2.2.2.2) hob
  · obtain ⟨s, x, xs, y1, y2, p, rfl, rfl, hpa, hpx, hcl, hob, hok, hw1, hw2⟩ := wkE_one hwk hl0
    refine .inr ⟨p, y1, y2, rfl, hpa, by rw [hpx]; exact hob, by rw [hpx]; exact hok, by rw [hpx]; exact hw1, ?_, fun wr G q hold hS hG k3 k4 k5 hfz => ?_⟩
    · refine ⟨A3, 0, c3, some ⟨g2, o, none⟩, _, c4, rfl, rfl, hc3, hc4, ⟨by omega, hbd.2.1, by have := hbd.2.1; rw [Ens.len] at this; dsimp only; omega⟩, ?_⟩
      rcases Nat.eq_zero_or_pos xs.len with h0 | h0
      · have hn : xs = .nil := by cases xs with | nil => rfl | cons t y ys => rw [Ens.len] at h0; omega
        subst hn
        unfold WkE at hw2
        exact .inl ⟨Nat.zero_le _, by rw [Ens.len, Ens.len]; dsimp only; omega, hw2⟩
      · refine .inr (.inr ⟨xs, g2, o, by rw [Ens.len]; dsimp only; omega, h0, rfl, rfl, hg2, ?_⟩)
        dsimp only
        rw [show o + (i + 1) * 6 = o + i * 6 + 6 by omega]
        exact hw2
    · have e := fun j => World.cell?_of_block (a := ⟨g2, j, none⟩) (hold g2 hg2)
      exact nextE (Nat.zero_le _) (by rw [Ens.len]; omega) hbd.2.1 hG rfl (hS g2 hg2) k3 k4 k5 hfz ((e _).trans hcl.1) ((e _).trans hcl.2.1) ((e _).trans hcl.2.2.1) ((e _).trans hcl.2.2.2.1) ((e _).trans hcl.2.2.2.2) hob
end
end Go.Proofs.YtliieeagbpmcgaaDoor
