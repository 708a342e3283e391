/- Contracts of functions that the law calls, and what they lean on (a part). -/
import Derived.Test.YtliieeagbpmcgaaDoorPu4
import Derived.Test.YtliieeagbpmcgaaDoorPu16
namespace Go.Proofs.YtliieeagbpmcgaaDoor
section
open Go.RowKit
set_option linter.unusedVariables false
set_option maxRecDepth 100000
def Obs.snoc : Obs → Ob → Obs
  | .nil, y => .cons y .nil
  | .cons x xs, y => .cons x (xs.snoc y)
def Ens.snoc : Ens → ByteArray → Ob → Ens
  | .nil, t, y => .cons t y .nil
  | .cons s x xs, t, y => .cons s x (xs.snoc t y)
def Obs.takeN : Obs → Nat → Obs
  | _, 0 => .nil
  | .nil, _ + 1 => .nil
  | .cons x xs, i + 1 => .cons x (xs.takeN i)
def Ens.takeN : Ens → Nat → Ens
  | _, 0 => .nil
  | .nil, _ + 1 => .nil
  | .cons s x xs, i + 1 => .cons s x (xs.takeN i)
theorem Obs.snoc_len : ∀ (l : Obs) (y : Ob), (l.snoc y).len = l.len + 1
  | .nil, y => rfl
  | .cons x xs, y => by rw [Obs.snoc, Obs.len, Obs.snoc_len xs y, Obs.len]
theorem Ens.snoc_len : ∀ (l : Ens) (t : ByteArray) (y : Ob), (l.snoc t y).len = l.len + 1
  | .nil, t, y => rfl
  | .cons s x xs, t, y => by rw [Ens.snoc, Ens.len, Ens.snoc_len xs t y, Ens.len]
theorem Obs.take_zero (l : Obs) : l.takeN 0 = .nil := by cases l <;> rfl
theorem Ens.take_zero (l : Ens) : l.takeN 0 = .nil := by cases l <;> rfl
theorem Obs.take_snoc : ∀ (l : Obs) (i : Nat) (x : Ob), l.get? i = some x → l.takeN (i + 1) = (l.takeN i).snoc x
  | .nil, i, x, h => by simp [Obs.get?] at h
  | .cons y xs, 0, x, h => by
    simp [Obs.get?] at h; subst h
    show Obs.cons y (Obs.takeN xs 0) = Obs.snoc (Obs.takeN (Obs.cons y xs) 0) y
    rw [Obs.take_zero, Obs.take_zero]; rfl
  | .cons y xs, i + 1, x, h => by
    rw [Obs.takeN, Obs.take_snoc xs i x (by simpa [Obs.get?] using h), Obs.takeN, Obs.snoc]
theorem Ens.take_snoc : ∀ (l : Ens) (i : Nat) (s : ByteArray) (x : Ob), l.get? i = some (s, x) → l.takeN (i + 1) = (l.takeN i).snoc s x
  | .nil, i, s, x, h => by simp [Ens.get?] at h
  | .cons t y xs, 0, s, x, h => by
    simp [Ens.get?] at h; obtain ⟨rfl, rfl⟩ := h
    show Ens.cons t y (Ens.takeN xs 0) = Ens.snoc (Ens.takeN (Ens.cons t y xs) 0) t y
    rw [Ens.take_zero, Ens.take_zero]; rfl
  | .cons t y xs, i + 1, s, x, h => by
    rw [Ens.takeN, Ens.take_snoc xs i s x (by simpa [Ens.get?] using h), Ens.takeN, Ens.snoc]
theorem Obs.take_len : ∀ (l : Obs) (i : Nat), i ≤ l.len → (l.takeN i).len = i
  | l, 0, _ => by rw [Obs.take_zero]; rfl
  | .nil, i + 1, h => by simp [Obs.len] at h
  | .cons y xs, i + 1, h => by rw [Obs.takeN, Obs.len, Obs.take_len xs i (by simpa [Obs.len] using h)]
theorem Ens.take_len : ∀ (l : Ens) (i : Nat), i ≤ l.len → (l.takeN i).len = i
  | l, 0, _ => by rw [Ens.take_zero]; rfl
  | .nil, i + 1, h => by simp [Ens.len] at h
  | .cons s y xs, i + 1, h => by rw [Ens.takeN, Ens.len, Ens.take_len xs i (by simpa [Ens.len] using h)]
theorem Obs.take_all : ∀ (l : Obs), l.takeN l.len = l
  | .nil => rfl
  | .cons x xs => by rw [Obs.len, Obs.takeN, Obs.take_all xs]
theorem Ens.take_all : ∀ (l : Ens), l.takeN l.len = l
  | .nil => rfl
  | .cons s x xs => by rw [Ens.len, Ens.takeN, Ens.take_all xs]
/-- Cells in a row that read as objects, as entries. -/
def ObsC (w : World) (S : Nat → Prop) : Obs → List Value → Prop
  | .nil, cs => cs = []
  | .cons x xs, cs => ∃ c0 c1 c2 c3 c4 rest, cs = c0 :: c1 :: c2 :: c3 :: c4 :: rest ∧ ObR w S x c0 c1 c2 c3 c4 ∧ ObsC w S xs rest
def EnsC (w : World) (S : Nat → Prop) : Ens → List Value → Prop
  | .nil, cs => cs = []
  | .cons s x xs, cs => ∃ c0 c1 c2 c3 c4 rest, cs = .string s :: c0 :: c1 :: c2 :: c3 :: c4 :: rest ∧ ObR w S x c0 c1 c2 c3 c4 ∧ EnsC w S xs rest
section
variable {w w' : World} {S S' : Nat → Prop}
theorem ObsC.keep (hb : ∀ g, S g → w'.heap[g]? = w.heap[g]?) (hS : ∀ g, S g → S' g) : ∀ (l : Obs) (cs : List Value), ObsC w S l cs → ObsC w' S' l cs
  | .nil, cs, h => h
  | .cons x xs, cs, h => by
    obtain ⟨c0, c1, c2, c3, c4, rest, e, hx, hr⟩ := h
    exact ⟨c0, c1, c2, c3, c4, rest, e, ObR.keep hb hS x hx, ObsC.keep hb hS xs rest hr⟩
theorem EnsC.keep (hb : ∀ g, S g → w'.heap[g]? = w.heap[g]?) (hS : ∀ g, S g → S' g) : ∀ (l : Ens) (cs : List Value), EnsC w S l cs → EnsC w' S' l cs
  | .nil, cs, h => h
  | .cons s x xs, cs, h => by
    obtain ⟨c0, c1, c2, c3, c4, rest, e, hx, hr⟩ := h
    exact ⟨c0, c1, c2, c3, c4, rest, e, ObR.keep hb hS x hx, EnsC.keep hb hS xs rest hr⟩
theorem ObsC.snoc {x : Ob} {c0 c1 c2 c3 c4 : Value} (hx : ObR w S x c0 c1 c2 c3 c4) : ∀ (l : Obs) (cs : List Value), ObsC w S l cs → ObsC w S (l.snoc x) (cs ++ [c0, c1, c2, c3, c4])
  | .nil, cs, h => by
    have h2 : cs = [] := h
    subst h2
    exact ⟨c0, c1, c2, c3, c4, [], rfl, hx, rfl⟩
  | .cons y ys, cs, h => by
    obtain ⟨d0, d1, d2, d3, d4, rest, e, hy, hr⟩ := h
    subst e
    exact ⟨d0, d1, d2, d3, d4, rest ++ [c0, c1, c2, c3, c4], rfl, hy, ObsC.snoc hx ys rest hr⟩
theorem EnsC.snoc {s : ByteArray} {x : Ob} {c0 c1 c2 c3 c4 : Value} (hx : ObR w S x c0 c1 c2 c3 c4) : ∀ (l : Ens) (cs : List Value), EnsC w S l cs → EnsC w S (l.snoc s x) (cs ++ [.string s, c0, c1, c2, c3, c4])
  | .nil, cs, h => by
    have h2 : cs = [] := h
    subst h2
    exact ⟨c0, c1, c2, c3, c4, [], rfl, hx, rfl⟩
  | .cons t y ys, cs, h => by
    obtain ⟨d0, d1, d2, d3, d4, rest, e, hy, hr⟩ := h
    subst e
    exact ⟨d0, d1, d2, d3, d4, rest ++ [.string s, c0, c1, c2, c3, c4], rfl, hy, EnsC.snoc hx ys rest hr⟩
theorem ObsC.row : ∀ (l : Obs) (cs : List Value) (g o : Nat), ObsC w S l cs → (∀ i u, cs[i]? = some u → w.cell? ⟨g, o + i, none⟩ = some u) → ObsR w S l g o
  | .nil, cs, g, o, h, hc => by unfold ObsR; trivial
  | .cons x xs, cs, g, o, h, hc => by
    obtain ⟨c0, c1, c2, c3, c4, rest, e, hx, hr⟩ := h
    subst e
    unfold ObsR
    refine ⟨⟨c0, c1, c2, c3, c4, hc 0 c0 rfl, hc 1 c1 rfl, hc 2 c2 rfl, hc 3 c3 rfl, hc 4 c4 rfl, hx⟩, ObsC.row xs rest g (o + 5) hr (fun i u hu => ?_)⟩
    have := hc (i + 5) u (by simpa using hu)
    rw [show o + (i + 5) = o + 5 + i by omega] at this
    exact this
theorem EnsC.row : ∀ (l : Ens) (cs : List Value) (g o : Nat), EnsC w S l cs → (∀ i u, cs[i]? = some u → w.cell? ⟨g, o + i, none⟩ = some u) → EnsR w S l g o
  | .nil, cs, g, o, h, hc => by unfold EnsR; trivial
  | .cons s x xs, cs, g, o, h, hc => by
    obtain ⟨c0, c1, c2, c3, c4, rest, e, hx, hr⟩ := h
    subst e
    unfold EnsR
    refine ⟨⟨c0, c1, c2, c3, c4, hc 0 _ rfl, hc 1 c0 rfl, hc 2 c1 rfl, hc 3 c2 rfl, hc 4 c3 rfl, hc 5 c4 rfl, hx⟩, EnsC.row xs rest g (o + 6) hr (fun i u hu => ?_)⟩
    have := hc (i + 6) u (by simpa using hu)
    rw [show o + (i + 6) = o + 6 + i by omega] at this
    exact this
end
theorem ObR.one {w : World} {S : Nat → Prop} : ∀ (x : Ob) {c0 c1 c2 c3 c4 : Value}, ObR w S x c0 c1 c2 c3 c4 → c0.oneCell' = true ∧ c1.oneCell' = true ∧ c2.oneCell' = true ∧ c3.oneCell' = true ∧ c4.oneCell' = true
  | .mk k n b l d, c0, c1, c2, c3, c4, h => by
    unfold ObR at h
    obtain ⟨rfl, rfl, _, _, ⟨A, m, c, rfl, _⟩, ⟨AL, cL, rfl, _⟩, ⟨AD, cD, rfl, _⟩⟩ := h
    exact ⟨rfl, rfl, rfl, rfl, rfl⟩
/-- A row of any elements of the call's own: its own block alone is written. -/
def ownS (T : Nat → Prop) (w : World) (base : Nat) (v : Value) : Nat → Prop := fun g => (T g ∨ base ≤ g) ∧ g < w.heap.size ∧ v.ownBlock ≠ some g
/-- A row of objects of the call's own. -/
def OwnO (T : Nat → Prop) (w : World) (base : Nat) (v : Value) (l : Obs) : Prop := ∃ cs, w.ownsRow base 26 5 v l.len cs ∧ ObsC w (ownS T w base v) l cs
/-- A row of entries of the call's own. -/
def OwnE (T : Nat → Prop) (w : World) (base : Nat) (v : Value) (d : Ens) : Prop := ∃ cs, w.ownsRow base 36 6 v d.len cs ∧ EnsC w (ownS T w base v) d cs
theorem row_ltN {w : World} {base e s n : Nat} {v : Value} {cs : List Value} (h : w.ownsRow base e s v n cs) (b : Nat) (hb : v.ownBlock = some b) : b < w.heap.size ∧ base ≤ b := by
  rcases h.2 with ⟨rfl, _⟩ | ⟨b', cap, cur, rfl, h2, hh, _⟩
  · cases hb
  · injection hb with hb
    dsimp only at hb
    subst hb
    refine ⟨?_, h2⟩
    rcases Nat.lt_or_ge b' w.heap.size with hlt | hge
    · exact hlt
    · rw [Array.getElem?_eq_none hge] at hh; cases hh
theorem row_sameN {w w' : World} {base e s n : Nat} {v : Value} {cs : List Value} (h : w.ownsRow base e s v n cs) (hk : ∀ b, v.ownBlock = some b → w'.heap[b]? = w.heap[b]?) : w'.ownsRow base e s v n cs := by
  refine ⟨h.1, ?_⟩
  rcases h.2 with h0 | ⟨b, cap, cur, hv, hb, hh, hr⟩
  · exact .inl h0
  · exact .inr ⟨b, cap, cur, hv, hb, (hk b (by rw [hv]; rfl)).trans hh, hr⟩
theorem row_shapeN {w : World} {base e s n : Nat} {v : Value} {cs : List Value} (h : w.ownsRow base e s v n cs) : ∃ A c, v = .slice A n c ∧ (n ≤ c ∧ c ≤ 9223372036854775807) ∧ (0 < n → ∃ g, A = some ⟨g, 0, none⟩ ∧ base ≤ g ∧ g < w.heap.size ∧ ∀ i u, cs[i]? = some u → w.cell? ⟨g, 0 + i, none⟩ = some u) := by
  have hlt := row_ltN h
  rcases h.2 with ⟨rfl, h0⟩ | ⟨g, cap, cur, rfl, hb, hh, hn, hm, hs, ht⟩
  · exact ⟨none, 0, by rw [h0], by omega, by omega⟩
  · refine ⟨some ⟨g, 0, none⟩, cap, rfl, ⟨hn, by simpa [maxLen] using hm⟩, fun _ => ⟨g, rfl, hb, (hlt g rfl).1, fun i u hu => ?_⟩⟩
    rw [cell_of_row w g _ cur e (0, 0) hh, Nat.zero_add]
    have hi := (List.getElem?_eq_some_iff.1 hu).1
    have h2 : (cur.toList.take (n * s))[i]? = some u := by rw [ht]; exact hu
    rw [List.getElem?_take_of_lt (by rw [← h.1]; exact hi)] at h2
    simpa using h2
section
variable {T : Nat → Prop} {w w' : World} {base : Nat} {v v' : Value} {l : Obs} {d : Ens}
theorem OwnO.nil (T : Nat → Prop) (w : World) (base : Nat) : OwnO T w base (.slice none 0 0) .nil := ⟨[], ⟨rfl, .inl ⟨rfl, rfl⟩⟩, rfl⟩
theorem OwnE.nil (T : Nat → Prop) (w : World) (base : Nat) : OwnE T w base (.slice none 0 0) .nil := ⟨[], ⟨rfl, .inl ⟨rfl, rfl⟩⟩, rfl⟩
/-- What a call leaves that changes nothing of what was there. -/
theorem OwnO.low (h : OwnO T w base v l) (hb : Below w.heap.size w w') : OwnO T w' base v l := by
  obtain ⟨cs, h1, h2⟩ := h
  exact ⟨cs, row_sameN h1 (fun b hb' => hb.block b (row_ltN h1 b hb').1), ObsC.keep (fun g hg => hb.block g hg.2.1) (fun g hg => ⟨hg.1, Nat.lt_of_lt_of_le hg.2.1 hb.size, hg.2.2⟩) l cs h2⟩
theorem OwnE.low (h : OwnE T w base v d) (hb : Below w.heap.size w w') : OwnE T w' base v d := by
  obtain ⟨cs, h1, h2⟩ := h
  exact ⟨cs, row_sameN h1 (fun b hb' => hb.block b (row_ltN h1 b hb').1), EnsC.keep (fun g hg => hb.block g hg.2.1) (fun g hg => ⟨hg.1, Nat.lt_of_lt_of_le hg.2.1 hb.size, hg.2.2⟩) d cs h2⟩
/-- A block of another is written. -/
theorem OwnO.keepB (h : OwnO T w base v l) {g : Nat} (ho : Only g w w') (hg : g < base) (hT : ¬ T g) : OwnO T w' base v l := by
  obtain ⟨cs, h1, h2⟩ := h
  refine ⟨cs, row_sameN h1 (fun b hb' => ho.block b (row_ltN h1 b hb').1 (by have := (row_ltN h1 b hb').2; omega)), ObsC.keep (fun b hb => ho.block b hb.2.1 ?_) (fun b hb => ⟨hb.1, Nat.lt_of_lt_of_le hb.2.1 ho.size, hb.2.2⟩) l cs h2⟩
  rintro rfl
  rcases hb.1 with h3 | h3
  · exact hT h3
  · omega
theorem OwnE.keepB (h : OwnE T w base v d) {g : Nat} (ho : Only g w w') (hg : g < base) (hT : ¬ T g) : OwnE T w' base v d := by
  obtain ⟨cs, h1, h2⟩ := h
  refine ⟨cs, row_sameN h1 (fun b hb' => ho.block b (row_ltN h1 b hb').1 (by have := (row_ltN h1 b hb').2; omega)), EnsC.keep (fun b hb => ho.block b hb.2.1 ?_) (fun b hb => ⟨hb.1, Nat.lt_of_lt_of_le hb.2.1 ho.size, hb.2.2⟩) d cs h2⟩
  rintro rfl
  rcases hb.1 with h3 | h3
  · exact hT h3
  · omega
theorem OwnO.shape (h : OwnO T w base v l) : ∃ A c, v = .slice A l.len c ∧ (l.len ≤ c ∧ c ≤ 9223372036854775807) ∧ (0 < l.len → ∃ g o, A = some ⟨g, o, none⟩ ∧ ((T g ∨ base ≤ g) ∧ g < w.heap.size) ∧ ObsR w (fun g => (T g ∨ base ≤ g) ∧ g < w.heap.size) l g o) := by
  obtain ⟨cs, h1, h2⟩ := h
  obtain ⟨A, c, e, hc, hx⟩ := row_shapeN h1
  refine ⟨A, c, e, hc, fun h0 => ?_⟩
  obtain ⟨g, e1, hb, hl, hcell⟩ := hx h0
  exact ⟨g, 0, e1, ⟨.inr hb, hl⟩, ObsC.row l cs g 0 (ObsC.keep (fun _ _ => rfl) (fun b hb => ⟨hb.1, hb.2.1⟩) l cs h2) hcell⟩
theorem OwnE.shape (h : OwnE T w base v d) : ∃ A c, v = .slice A d.len c ∧ (d.len ≤ c ∧ c ≤ 9223372036854775807) ∧ (0 < d.len → ∃ g o, A = some ⟨g, o, none⟩ ∧ ((T g ∨ base ≤ g) ∧ g < w.heap.size) ∧ EnsR w (fun g => (T g ∨ base ≤ g) ∧ g < w.heap.size) d g o) := by
  obtain ⟨cs, h1, h2⟩ := h
  obtain ⟨A, c, e, hc, hx⟩ := row_shapeN h1
  refine ⟨A, c, e, hc, fun h0 => ?_⟩
  obtain ⟨g, e1, hb, hl, hcell⟩ := hx h0
  exact ⟨g, 0, e1, ⟨.inr hb, hl⟩, EnsC.row d cs g 0 (EnsC.keep (fun _ _ => rfl) (fun b hb => ⟨hb.1, hb.2.1⟩) d cs h2) hcell⟩
theorem ownS_grow {x : Nat} (hk : KeepX v w v' w') (hx : ownS T w base v x) : ownS T w' base v' x := by
  refine ⟨hx.1, Nat.lt_of_lt_of_le hx.2.1 hk.size, fun e => ?_⟩
  rcases hk.own x e with h | h
  · exact hx.2.2 h
  · have := hx.2.1; omega
end
theorem infoO : (Tryd.prog.info? 26).map (fun i => (i.zero, i.size, i.bytes)) = some (some (.agg #[.int .i64 0, .int .i64 0, .slice none 0 0, .slice none 0 0, .slice none 0 0]), 5, 88) := by kernel_rfl
theorem infoE : (Tryd.prog.info? 36).map (fun i => (i.zero, i.size, i.bytes)) = some (some (.agg #[.string ⟨#[]⟩, .int .i64 0, .int .i64 0, .slice none 0 0, .slice none 0 0, .slice none 0 0]), 6, 104) := by kernel_rfl
section
variable {T : Nat → Prop} {w : World} {base : Nat} {v : Value} {l : Obs} {d : Ens}
/-- One object more. -/
theorem OwnO.append1 (h : OwnO T w base v l) (x : Ob) (gl : Nat) {c0 c1 c2 c3 c4 : Value} (hx : ObR w (ownS T w base v) x c0 c1 c2 c3 c4) (h0 : w.cell? ⟨gl, 0, none⟩ = some c0) (h1 : w.cell? ⟨gl, 1, none⟩ = some c1) (h2 : w.cell? ⟨gl, 2, none⟩ = some c2) (h3 : w.cell? ⟨gl, 3, none⟩ = some c3) (h4 : w.cell? ⟨gl, 4, none⟩ = some c4) (hl : l.len ≤ 1000000000) (hbase : base ≤ w.heap.size) (hT : ∀ g, T g → g < base) :
    ∃ v' w', (Builtin.append_ #[23, 23] 23 #[v, .slice (some ⟨gl, 0, none⟩) 1 1]).run Tryd.prog w = .ok v' w' ∧ OwnO T w' base v' (l.snoc x) ∧ KeepX v w v' w' ∧ ∃ A c, v' = .slice A (l.len + 1) c := by
  obtain ⟨cs, hr, hc⟩ := h
  obtain ⟨i0, hi, hz0, hz1, hz2⟩ := info_parts infoO
  obtain ⟨o0, o1, o2, o3, o4⟩ := ObR.one x hx
  obtain ⟨v', w', hrun, hown, hgr, _, hat⟩ := run_append_own_at (P := Tryd.prog) w base 23 23 26 i0 _ 5 88 Tryd.underlying23 hi hz0 hz1 hz2 rfl (by omega) v l.len cs hr ⟨gl, 0, none⟩ 1 1 [c0, c1, c2, c3, c4] rfl
    (by
      intro j u hj
      have hj5 := (List.getElem?_eq_some_iff.1 hj).1
      simp only [List.length_cons, List.length_nil] at hj5
      have e : (⟨gl, 0, none⟩ : Addr).add j = ⟨gl, 0 + j, none⟩ := by unfold Addr.add; split <;> simp_all
      rw [Nat.zero_add] at e
      rw [e]
      match j, hj5, hj with
      | 0, _, hj => simp at hj; subst hj; exact h0
      | 1, _, hj => simp at hj; subst hj; exact h1
      | 2, _, hj => simp at hj; subst hj; exact h2
      | 3, _, hj => simp at hj; subst hj; exact h3
      | 4, _, hj => simp at hj; subst hj; exact h4)
    (by
      intro u hu
      simp only [List.mem_cons, List.not_mem_nil, or_false] at hu
      rcases hu with rfl | rfl | rfl | rfl | rfl <;> assumption) (by simp only [maxLen]; omega) (by omega) hbase
  have hk : KeepX v w v' w' := ⟨hgr.os, hgr.tape, hgr.output, hgr.size, fun k hk hne => hgr.block k hk (fun e => hne e.symm), fun b hb => by
    rcases hat with h1 | h1
    · exact .inl (by rw [← h1, hb])
    · rw [hb] at h1; injection h1 with h1; exact .inr (by omega)⟩
  have hkeep : ∀ g, ownS T w base v g → w'.heap[g]? = w.heap[g]? := fun g hg => hk.block g hg.2.1 hg.2.2
  refine ⟨v', w', hrun, ⟨cs ++ [c0, c1, c2, c3, c4], by rw [Obs.snoc_len]; exact hown, ObsC.snoc (ObR.keep hkeep (fun g hg => ownS_grow hk hg) x hx) l cs (ObsC.keep hkeep (fun g hg => ownS_grow hk hg) l cs hc)⟩, hk, ?_⟩
  obtain ⟨A, c, e, _⟩ := row_shapeN hown
  exact ⟨A, c, e⟩
/-- One entry more. -/
theorem OwnE.append1 (h : OwnE T w base v d) (s : ByteArray) (x : Ob) (gl : Nat) {c0 c1 c2 c3 c4 : Value} (hx : ObR w (ownS T w base v) x c0 c1 c2 c3 c4) (hs : w.cell? ⟨gl, 0, none⟩ = some (.string s)) (h0 : w.cell? ⟨gl, 1, none⟩ = some c0) (h1 : w.cell? ⟨gl, 2, none⟩ = some c1) (h2 : w.cell? ⟨gl, 3, none⟩ = some c2) (h3 : w.cell? ⟨gl, 4, none⟩ = some c3) (h4 : w.cell? ⟨gl, 5, none⟩ = some c4) (hl : d.len ≤ 1000000000) (hbase : base ≤ w.heap.size) (hT : ∀ g, T g → g < base) :
    ∃ v' w', (Builtin.append_ #[24, 24] 24 #[v, .slice (some ⟨gl, 0, none⟩) 1 1]).run Tryd.prog w = .ok v' w' ∧ OwnE T w' base v' (d.snoc s x) ∧ KeepX v w v' w' ∧ ∃ A c, v' = .slice A (d.len + 1) c := by
  obtain ⟨cs, hr, hc⟩ := h
  obtain ⟨i0, hi, hz0, hz1, hz2⟩ := info_parts infoE
  obtain ⟨o0, o1, o2, o3, o4⟩ := ObR.one x hx
  obtain ⟨v', w', hrun, hown, hgr, _, hat⟩ := run_append_own_at (P := Tryd.prog) w base 24 24 36 i0 _ 6 104 Tryd.underlying24 hi hz0 hz1 hz2 rfl (by omega) v d.len cs hr ⟨gl, 0, none⟩ 1 1 [.string s, c0, c1, c2, c3, c4] rfl
    (by
      intro j u hj
      have hj5 := (List.getElem?_eq_some_iff.1 hj).1
      simp only [List.length_cons, List.length_nil] at hj5
      have e : (⟨gl, 0, none⟩ : Addr).add j = ⟨gl, 0 + j, none⟩ := by unfold Addr.add; split <;> simp_all
      rw [Nat.zero_add] at e
      rw [e]
      match j, hj5, hj with
      | 0, _, hj => simp at hj; subst hj; exact hs
      | 1, _, hj => simp at hj; subst hj; exact h0
      | 2, _, hj => simp at hj; subst hj; exact h1
      | 3, _, hj => simp at hj; subst hj; exact h2
      | 4, _, hj => simp at hj; subst hj; exact h3
      | 5, _, hj => simp at hj; subst hj; exact h4)
    (by
      intro u hu
      simp only [List.mem_cons, List.not_mem_nil, or_false] at hu
      rcases hu with rfl | rfl | rfl | rfl | rfl | rfl <;> first | assumption | rfl) (by simp only [maxLen]; omega) (by omega) hbase
  have hk : KeepX v w v' w' := ⟨hgr.os, hgr.tape, hgr.output, hgr.size, fun k hk hne => hgr.block k hk (fun e => hne e.symm), fun b hb => by
    rcases hat with h1 | h1
    · exact .inl (by rw [← h1, hb])
    · rw [hb] at h1; injection h1 with h1; exact .inr (by omega)⟩
  have hkeep : ∀ g, ownS T w base v g → w'.heap[g]? = w.heap[g]? := fun g hg => hk.block g hg.2.1 hg.2.2
  refine ⟨v', w', hrun, ⟨cs ++ [.string s, c0, c1, c2, c3, c4], by rw [Ens.snoc_len]; exact hown, EnsC.snoc (ObR.keep hkeep (fun g hg => ownS_grow hk hg) x hx) d cs (EnsC.keep hkeep (fun g hg => ownS_grow hk hg) d cs hc)⟩, hk, ?_⟩
  obtain ⟨A, c, e, _⟩ := row_shapeN hown
  exact ⟨A, c, e⟩
end
end
end Go.Proofs.YtliieeagbpmcgaaDoor
