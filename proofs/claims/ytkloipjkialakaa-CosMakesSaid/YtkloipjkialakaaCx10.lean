/- Chapter 10: the project's Copy: what is known between two rounds (pure). Chapter 10: the project's Copy: one round (pure). -/
import Derived.Test.YtkloipjkialakaaAn10
namespace Go.Proofs.Ytkloipjkialakaa
open Go.RowKit
set_option linter.unusedVariables false
set_option maxRecDepth 100000

/-- Five cells in new memory, and the object that is to stand there. -/
structure Sp where
  g : Nat
  o : Nat
  x : Ob
abbrev spPtr (p : Sp) : Value := .pointer (some ⟨p.g, p.o, none⟩)
def InSp (p : Sp) (k o : Nat) : Prop := k = p.g ∧ p.o ≤ o ∧ o < p.o + 5
def ApartSp (p q : Sp) : Prop := p.g ≠ q.g ∨ p.o + 5 ≤ q.o ∨ q.o + 5 ≤ p.o
mutual
/-- How deep an object is. -/
def htO : Ob → Nat
  | .mk _ _ _ l d => 1 + max (htL l) (htE d)
def htL : Obs → Nat
  | .nil => 0
  | .cons x xs => max (htO x) (htL xs)
def htE : Ens → Nat
  | .nil => 0
  | .cons _ x xs => max (htO x) (htE xs)
end
mutual
/-- No object has more than so many items and entries; no list is out of all measure. -/
def wdO (W : Nat) : Ob → Prop
  | .mk _ _ b l d => b.length ≤ 100000000 ∧ l.len + d.len ≤ W ∧ wdL W l ∧ wdE W d
def wdL (W : Nat) : Obs → Prop
  | .nil => True
  | .cons x xs => wdO W x ∧ wdL W xs
def wdE (W : Nat) : Ens → Prop
  | .nil => True
  | .cons _ x xs => wdO W x ∧ wdE W xs
end
def obsSp (g : Nat) : Nat → Obs → List Sp
  | _, .nil => []
  | o, .cons x xs => ⟨g, o, x⟩ :: obsSp g (o + 5) xs
def ensSp (g : Nat) : Nat → Ens → List Sp
  | _, .nil => []
  | o, .cons _ x xs => ⟨g, o + 1, x⟩ :: ensSp g (o + 6) xs
theorem obsSp_len (g : Nat) : ∀ (l : Obs) (o : Nat), (obsSp g o l).length = l.len
  | .nil, o => rfl
  | .cons x xs, o => by rw [obsSp, List.length_cons, obsSp_len g xs, Obs.len]
theorem ensSp_len (g : Nat) : ∀ (d : Ens) (o : Nat), (ensSp g o d).length = d.len
  | .nil, o => rfl
  | .cons s x xs, o => by rw [ensSp, List.length_cons, ensSp_len g xs, Ens.len]
theorem obsSp_get (g : Nat) : ∀ (l : Obs) (o i : Nat) (p : Sp), (obsSp g o l)[i]? = some p → p.g = g ∧ p.o = o + i * 5 ∧ l.get? i = some p.x
  | .nil, o, i, p, h => by simp [obsSp] at h
  | .cons x xs, o, 0, p, h => by simp [obsSp] at h; subst h; simp [Obs.get?]
  | .cons x xs, o, i + 1, p, h => by
    rw [obsSp, List.getElem?_cons_succ] at h
    obtain ⟨h1, h2, h3⟩ := obsSp_get g xs (o + 5) i p h
    exact ⟨h1, by rw [h2]; omega, by rw [Obs.get?]; exact h3⟩
theorem ensSp_get (g : Nat) : ∀ (d : Ens) (o i : Nat) (p : Sp), (ensSp g o d)[i]? = some p → p.g = g ∧ p.o = o + i * 6 + 1 ∧ ∃ s, d.get? i = some (s, p.x)
  | .nil, o, i, p, h => by simp [ensSp] at h
  | .cons s x xs, o, 0, p, h => by simp [ensSp] at h; subst h; simp [Ens.get?]
  | .cons s x xs, o, i + 1, p, h => by
    rw [ensSp, List.getElem?_cons_succ] at h
    obtain ⟨h1, h2, t, h3⟩ := ensSp_get g xs (o + 6) i p h
    exact ⟨h1, by rw [h2]; omega, t, by rw [Ens.get?]; exact h3⟩
theorem htL_get : ∀ (l : Obs) (i : Nat) (x : Ob), l.get? i = some x → htO x ≤ htL l
  | .nil, i, x, h => by simp [Obs.get?] at h
  | .cons y ys, 0, x, h => by simp [Obs.get?] at h; subst h; rw [htL]; omega
  | .cons y ys, i + 1, x, h => by have := htL_get ys i x (by simpa [Obs.get?] using h); rw [htL]; omega
theorem htE_get : ∀ (d : Ens) (i : Nat) (s : ByteArray) (x : Ob), d.get? i = some (s, x) → htO x ≤ htE d
  | .nil, i, s, x, h => by simp [Ens.get?] at h
  | .cons t y ys, 0, s, x, h => by simp [Ens.get?] at h; obtain ⟨rfl, rfl⟩ := h; rw [htE]; omega
  | .cons t y ys, i + 1, s, x, h => by have := htE_get ys i s x (by simpa [Ens.get?] using h); rw [htE]; omega
theorem wdL_get (W : Nat) : ∀ (l : Obs) (i : Nat) (x : Ob), wdL W l → l.get? i = some x → wdO W x
  | .nil, i, x, _, h => by simp [Obs.get?] at h
  | .cons y ys, 0, x, hw, h => by simp [Obs.get?] at h; subst h; unfold wdL at hw; exact hw.1
  | .cons y ys, i + 1, x, hw, h => by unfold wdL at hw; exact wdL_get W ys i x hw.2 (by simpa [Obs.get?] using h)
theorem wdE_get (W : Nat) : ∀ (d : Ens) (i : Nat) (s : ByteArray) (x : Ob), wdE W d → d.get? i = some (s, x) → wdO W x
  | .nil, i, s, x, _, h => by simp [Ens.get?] at h
  | .cons t y ys, 0, s, x, hw, h => by simp [Ens.get?] at h; obtain ⟨rfl, rfl⟩ := h; unfold wdE at hw; exact hw.1
  | .cons t y ys, i + 1, s, x, hw, h => by unfold wdE at hw; exact wdE_get W ys i s x hw.2 (by simpa [Ens.get?] using h)
/-- Out of a row of objects its cells. -/
theorem ObsR.cs {w : World} {S : Nat → Prop} : ∀ (l : Obs) (g o : Nat), ObsR w S l g o → ∃ cs, ObsC w S l cs ∧ CellsAt w g o cs ∧ cs.length = l.len * 5 ∧ ∀ u ∈ cs, u.oneCell' = true
  | .nil, g, o, h => ⟨[], rfl, fun j u hj => by simp at hj, rfl, fun u hu => by cases hu⟩
  | .cons x xs, g, o, h => by
    unfold ObsR at h
    obtain ⟨⟨c0, c1, c2, c3, c4, k0, k1, k2, k3, k4, hx⟩, hr⟩ := h
    obtain ⟨cs, h1, h2, h3, h4⟩ := ObsR.cs xs g (o + 5) hr
    obtain ⟨o0, o1, o2, o3, o4⟩ := ObR.one x hx
    refine ⟨c0 :: c1 :: c2 :: c3 :: c4 :: cs, ⟨c0, c1, c2, c3, c4, cs, rfl, hx, h1⟩, fun j u hj => ?_, by simp [h3, Obs.len, Nat.add_mul], fun u hu => ?_⟩
    · match j, hj with
      | 0, hj => simp at hj; subst hj; exact k0
      | 1, hj => simp at hj; subst hj; exact k1
      | 2, hj => simp at hj; subst hj; exact k2
      | 3, hj => simp at hj; subst hj; exact k3
      | 4, hj => simp at hj; subst hj; exact k4
      | j + 5, hj =>
        have := h2 j u (by simpa using hj)
        rw [show o + (j + 5) = o + 5 + j by omega]
        exact this
    · simp only [List.mem_cons] at hu
      rcases hu with rfl | rfl | rfl | rfl | rfl | hu
      · exact o0
      · exact o1
      · exact o2
      · exact o3
      · exact o4
      · exact h4 u hu
theorem EnsR.cs {w : World} {S : Nat → Prop} : ∀ (l : Ens) (g o : Nat), EnsR w S l g o → ∃ cs, EnsC w S l cs ∧ CellsAt w g o cs ∧ cs.length = l.len * 6 ∧ ∀ u ∈ cs, u.oneCell' = true
  | .nil, g, o, h => ⟨[], rfl, fun j u hj => by simp at hj, rfl, fun u hu => by cases hu⟩
  | .cons s x xs, g, o, h => by
    unfold EnsR at h
    obtain ⟨⟨c0, c1, c2, c3, c4, ks, k0, k1, k2, k3, k4, hx⟩, hr⟩ := h
    obtain ⟨cs, h1, h2, h3, h4⟩ := EnsR.cs xs g (o + 6) hr
    obtain ⟨o0, o1, o2, o3, o4⟩ := ObR.one x hx
    refine ⟨.string s :: c0 :: c1 :: c2 :: c3 :: c4 :: cs, ⟨c0, c1, c2, c3, c4, cs, rfl, hx, h1⟩, fun j u hj => ?_, by simp [h3, Ens.len, Nat.add_mul], fun u hu => ?_⟩
    · match j, hj with
      | 0, hj => simp at hj; subst hj; exact ks
      | 1, hj => simp at hj; subst hj; exact k0
      | 2, hj => simp at hj; subst hj; exact k1
      | 3, hj => simp at hj; subst hj; exact k2
      | 4, hj => simp at hj; subst hj; exact k3
      | 5, hj => simp at hj; subst hj; exact k4
      | j + 6, hj =>
        have := h2 j u (by simpa using hj)
        rw [show o + (j + 6) = o + 6 + j by omega]
        exact this
    · simp only [List.mem_cons] at hu
      rcases hu with rfl | rfl | rfl | rfl | rfl | rfl | hu
      · rfl
      · exact o0
      · exact o1
      · exact o2
      · exact o3
      · exact o4
      · exact h4 u hu
/-- The five cells of a spot. -/
def Five (w : World) (p : Sp) (c0 c1 c2 c3 c4 : Value) : Prop := w.cell? ⟨p.g, p.o, none⟩ = some c0 ∧ w.cell? ⟨p.g, p.o + 1, none⟩ = some c1 ∧ w.cell? ⟨p.g, p.o + 2, none⟩ = some c2 ∧ w.cell? ⟨p.g, p.o + 3, none⟩ = some c3 ∧ w.cell? ⟨p.g, p.o + 4, none⟩ = some c4
abbrev newT (w w' : World) : Nat → Prop := fun b => w.heap.size ≤ b ∧ b < w'.heap.size ∧ b ≠ w.heap.size + 1
def DoneSp (w w' : World) (p : Sp) : Prop := ∃ c0 c1 c2 c3 c4, Five w' p c0 c1 c2 c3 c4 ∧ ObR w' (newT w w') p.x c0 c1 c2 c3 c4
def PendSp (S : Nat → Prop) (wr : World) (p : Sp) : Prop := ∃ c0 c1 c2 c3 c4, Five wr p c0 c1 c2 c3 c4 ∧ ObR wr S p.x c0 c1 c2 c3 c4
theorem Five.keep {w w' : World} {p : Sp} {c0 c1 c2 c3 c4 : Value} (h : Five w p c0 c1 c2 c3 c4) (hk : ∀ o, p.o ≤ o → o < p.o + 5 → w'.cell? ⟨p.g, o, none⟩ = w.cell? ⟨p.g, o, none⟩) : Five w' p c0 c1 c2 c3 c4 := by
  obtain ⟨h0, h1, h2, h3, h4⟩ := h
  exact ⟨(hk _ (by omega) (by omega)).trans h0, (hk _ (by omega) (by omega)).trans h1, (hk _ (by omega) (by omega)).trans h2, (hk _ (by omega) (by omega)).trans h3, (hk _ (by omega) (by omega)).trans h4⟩
theorem obs_pend {w : World} {S : Nat → Prop} (g : Nat) : ∀ (l : Obs) (cs : List Value) (o : Nat), ObsC w S l cs → CellsAt w g o cs → ∀ p ∈ obsSp g o l, PendSp S w p
  | .nil, cs, o, _, _, p, hp => by simp [obsSp] at hp
  | .cons x xs, cs, o, h, hc, p, hp => by
    obtain ⟨c0, c1, c2, c3, c4, rest, rfl, hx, hr⟩ := h
    rw [obsSp] at hp
    rcases List.mem_cons.1 hp with rfl | hp
    · exact ⟨c0, c1, c2, c3, c4, ⟨hc 0 c0 rfl, hc 1 c1 rfl, hc 2 c2 rfl, hc 3 c3 rfl, hc 4 c4 rfl⟩, hx⟩
    · refine obs_pend g xs rest (o + 5) hr (fun j u hj => ?_) p hp
      have := hc (j + 5) u (by simpa using hj)
      rw [show o + (j + 5) = o + 5 + j by omega] at this
      exact this
theorem ens_pend {w : World} {S : Nat → Prop} (g : Nat) : ∀ (l : Ens) (cs : List Value) (o : Nat), EnsC w S l cs → CellsAt w g o cs → ∀ p ∈ ensSp g o l, PendSp S w p
  | .nil, cs, o, _, _, p, hp => by simp [ensSp] at hp
  | .cons s x xs, cs, o, h, hc, p, hp => by
    obtain ⟨c0, c1, c2, c3, c4, rest, rfl, hx, hr⟩ := h
    rw [ensSp] at hp
    rcases List.mem_cons.1 hp with rfl | hp
    · exact ⟨c0, c1, c2, c3, c4, ⟨hc 1 c0 rfl, hc 2 c1 rfl, hc 3 c2 rfl, hc 4 c3 rfl, hc 5 c4 rfl⟩, hx⟩
    · refine ens_pend g xs rest (o + 6) hr (fun j u hj => ?_) p hp
      have := hc (j + 6) u (by simpa using hj)
      rw [show o + (j + 6) = o + 6 + j by omega] at this
      exact this
theorem obs_done {w w' : World} (g : Nat) : ∀ (l : Obs) (o : Nat), (∀ p ∈ obsSp g o l, DoneSp w w' p) → ObsR w' (newT w w') l g o
  | .nil, o, _ => by unfold ObsR; trivial
  | .cons x xs, o, h => by
    unfold ObsR
    obtain ⟨c0, c1, c2, c3, c4, ⟨h0, h1, h2, h3, h4⟩, hx⟩ := h ⟨g, o, x⟩ (by simp [obsSp])
    exact ⟨⟨c0, c1, c2, c3, c4, h0, h1, h2, h3, h4, hx⟩, obs_done g xs (o + 5) (fun p hp => h p (by rw [obsSp]; exact List.mem_cons_of_mem _ hp))⟩
theorem ens_done {w w' : World} (g : Nat) : ∀ (l : Ens) (o : Nat), (∀ i s x, l.get? i = some (s, x) → w'.cell? ⟨g, o + i * 6, none⟩ = some (.string s)) → (∀ p ∈ ensSp g o l, DoneSp w w' p) → EnsR w' (newT w w') l g o
  | .nil, o, _, _ => by unfold EnsR; trivial
  | .cons s x xs, o, hk, h => by
    unfold EnsR
    obtain ⟨c0, c1, c2, c3, c4, ⟨h0, h1, h2, h3, h4⟩, hx⟩ := h ⟨g, o + 1, x⟩ (by simp [ensSp])
    refine ⟨⟨c0, c1, c2, c3, c4, by simpa using hk 0 s x rfl, h0, h1, h2, h3, h4, hx⟩, ens_done g xs (o + 6) (fun i t y hy => ?_) (fun p hp => h p (by rw [ensSp]; exact List.mem_cons_of_mem _ hp))⟩
    have := hk (i + 1) t y (by rw [Ens.get?]; exact hy)
    rw [show o + (i + 1) * 6 = o + 6 + i * 6 by omega] at this
    exact this
theorem ens_keys {w : World} {S : Nat → Prop} (g : Nat) : ∀ (l : Ens) (cs : List Value) (o : Nat), EnsC w S l cs → CellsAt w g o cs → ∀ i s x, l.get? i = some (s, x) → w.cell? ⟨g, o + i * 6, none⟩ = some (.string s)
  | .nil, cs, o, _, _, i, s, x, h => by simp [Ens.get?] at h
  | .cons t y ys, cs, o, h, hc, i, s, x, hi => by
    obtain ⟨c0, c1, c2, c3, c4, rest, rfl, hx, hr⟩ := h
    match i, hi with
    | 0, hi => simp [Ens.get?] at hi; obtain ⟨rfl, rfl⟩ := hi; simpa using hc 0 _ rfl
    | i + 1, hi =>
      have := ens_keys g ys rest (o + 6) hr (fun j u hj => by
        have := hc (j + 6) u (by simpa using hj)
        rw [show o + (j + 6) = o + 6 + j by omega] at this
        exact this) i s x (by simpa [Ens.get?] using hi)
      rw [show o + (i + 1) * 6 = o + 6 + i * 6 by omega]
      exact this
theorem obsSp_apart (g : Nat) : ∀ (l : Obs) (o : Nat), (obsSp g o l).Pairwise ApartSp
  | .nil, o => List.Pairwise.nil
  | .cons x xs, o => by
    rw [obsSp]
    refine List.Pairwise.cons (fun q hq => ?_) (obsSp_apart g xs (o + 5))
    obtain ⟨i, hi⟩ := List.getElem?_of_mem hq
    obtain ⟨h1, h2, _⟩ := obsSp_get g xs (o + 5) i q hi
    exact .inr (.inl (by rw [h2]; dsimp only; omega))
theorem ensSp_apart (g : Nat) : ∀ (l : Ens) (o : Nat), (ensSp g o l).Pairwise ApartSp
  | .nil, o => List.Pairwise.nil
  | .cons s x xs, o => by
    rw [ensSp]
    refine List.Pairwise.cons (fun q hq => ?_) (ensSp_apart g xs (o + 6))
    obtain ⟨i, hi⟩ := List.getElem?_of_mem hq
    obtain ⟨h1, h2, _⟩ := ensSp_get g xs (o + 6) i q hi
    exact .inr (.inl (by rw [h2]; dsimp only; omega))
theorem obsSp_g (g : Nat) (l : Obs) (o : Nat) (p : Sp) (h : p ∈ obsSp g o l) : p.g = g := by
  obtain ⟨i, hi⟩ := List.getElem?_of_mem h
  exact (obsSp_get g l o i p hi).1
theorem ensSp_g (g : Nat) (l : Ens) (o : Nat) (p : Sp) (h : p ∈ ensSp g o l) : p.g = g := by
  obtain ⟨i, hi⟩ := List.getElem?_of_mem h
  exact (ensSp_get g l o i p hi).1
/-- Between two rounds: v holds the spots P that are still to be filled. -/
structure CyS (w wr : World) (S : Nat → Prop) (v : Value) (P : List Sp) (root : Ob) (K W : Nat) : Prop where
  low : Below w.heap.size w wr
  res : wr.heap[w.heap.size + 1]? = some (.cells #[.int .i64 0, .int .i64 0, .slice none 0 0, .slice none 0 0, .slice none 0 0] 27 (0, 0))
  own : OwnV wr (w.heap.size + 2) 62 v (P.map spPtr)
  pend : ∀ p ∈ P, PendSp S wr p ∧ w.heap.size ≤ p.g ∧ p.g ≠ w.heap.size + 1 ∧ v.ownBlock ≠ some p.g ∧ ∃ cur T, wr.heap[p.g]? = some (.cells cur T (0, 0))
  apart : P.Pairwise ApartSp
  bound : ∀ i p, P[i]? = some p → i + W * htO p.x ≤ K ∧ wdO W p.x
  wand : ∀ w', wr.heap.size ≤ w'.heap.size → (∀ k o, w.heap.size ≤ k → k < wr.heap.size → v.ownBlock ≠ some k → (∀ p ∈ P, ¬ InSp p k o) → w'.cell? ⟨k, o, none⟩ = wr.cell? ⟨k, o, none⟩) → (∀ p ∈ P, DoneSp w w' p) → DoneSp w w' ⟨w.heap.size, 0, root⟩
/-- Behind the three stores: W4 is what stood ahead of them. -/
structure St3 (W4 W5 : World) (p : Sp) (c0 c1 vb vl vd : Value) : Prop where
  size : W5.heap.size = W4.heap.size
  five : Five W5 p c0 c1 vb vl vd
  cell : ∀ g o, (g ≠ p.g ∨ o < p.o ∨ p.o + 5 ≤ o) → W5.cell? ⟨g, o, none⟩ = W4.cell? ⟨g, o, none⟩
  block : ∀ g, g ≠ p.g → W5.heap[g]? = W4.heap[g]?
  shape : ∃ cur T, W5.heap[p.g]? = some (.cells cur T (0, 0))
/-- The lists that anew has made. -/
structure New3 (w wr W4 : World) (S : Nat → Prop) (b : List Int) (l : Obs) (d : Ens) (gl gd : Nat) (Ab Al Ad : Option Addr) (cb cl cd : Nat) : Prop where
  low : Below wr.heap.size wr W4
  byt : BytS W4 (fun g => wr.heap.size ≤ g ∧ g < W4.heap.size ∧ g ≠ gl ∧ g ≠ gd) Ab b.length cb b
  gl0 : wr.heap.size ≤ gl
  gd0 : wr.heap.size ≤ gd
  ne : gl ≠ gd
  lcap : l.len ≤ cl ∧ cl ≤ 9223372036854775807
  dcap : d.len ≤ cd ∧ cd ≤ 9223372036854775807
  items : 0 < l.len → Al = some ⟨gl, 0, none⟩ ∧ gl < W4.heap.size ∧ (∃ cur T, W4.heap[gl]? = some (.cells cur T (0, 0))) ∧ ∃ cs, ObsC wr S l cs ∧ CellsAt W4 gl 0 cs
  entries : 0 < d.len → Ad = some ⟨gd, 0, none⟩ ∧ gd < W4.heap.size ∧ (∃ cur T, W4.heap[gd]? = some (.cells cur T (0, 0))) ∧ ∃ cs, EnsC wr S d cs ∧ CellsAt W4 gd 0 cs
theorem obsSp_pos (g o : Nat) (l : Obs) (p : Sp) (h : p ∈ obsSp g o l) : 0 < l.len := by
  cases l with
  | nil => simp [obsSp] at h
  | cons x xs => rw [Obs.len]; omega
theorem ensSp_pos (g o : Nat) (l : Ens) (p : Sp) (h : p ∈ ensSp g o l) : 0 < l.len := by
  cases l with
  | nil => simp [ensSp] at h
  | cons s x xs => rw [Ens.len]; omega
set_option maxHeartbeats 2000000 in
theorem CyS.step {w wr W4 W5 wf : World} {S : Nat → Prop} {v vp vf : Value} {P0 : List Sp} {p : Sp} {root : Ob} {K Wd : Nat} (h : CyS w wr S v (P0 ++ [p]) root K Wd) (hS : ∀ g, S g → g < w.heap.size)
    {k n : Int} {b : List Int} {l : Obs} {d : Ens} {gl gd cb cl cd : Nat} {Ab Al Ad : Option Addr} (hx : p.x = .mk k n b l d) (hk : -9223372036854775808 ≤ k ∧ k ≤ 9223372036854775807) (hn : -9223372036854775808 ≤ n ∧ n ≤ 9223372036854775807)
    (h4 : New3 w wr W4 S b l d gl gd Ab Al Ad cb cl cd) (h5 : St3 W4 W5 p (.int .i64 k) (.int .i64 n) (.slice Ab b.length cb) (.slice Al l.len cl) (.slice Ad d.len cd)) (h5l : Below w.heap.size w W5)
    (hpo : vp.ownBlock = v.ownBlock) (hKX : KeepX vp W5 vf wf) (hOV : OwnV wf (w.heap.size + 2) 62 vf ((P0 ++ (obsSp gl 0 l ++ ensSp gd 0 d)).map spPtr)) :
    CyS w wf S vf (P0 ++ (obsSp gl 0 l ++ ensSp gd 0 d)) root K Wd := by
  obtain ⟨hpp, hpg, hpg1, hpo1, hpsh⟩ := h.pend p (by simp)
  have hglt : p.g < wr.heap.size := by obtain ⟨cur, T, e⟩ := hpsh; exact row_lt _ _ _ e
  have hsz4 := h4.low.size
  have hsz5 : wr.heap.size ≤ W5.heap.size := by rw [h5.size]; exact hsz4
  have hszf := hKX.size
  have hwlt : w.heap.size ≤ wr.heap.size := h.low.size
  have hres : w.heap.size + 1 < wr.heap.size := row_lt _ _ _ h.res
  have hown : ∀ g, v.ownBlock = some g → g < wr.heap.size ∧ w.heap.size + 2 ≤ g := fun g hg => h.own.lt g hg
  -- what is kept from the round's head to its end
  have kf : ∀ g, g < W5.heap.size → v.ownBlock ≠ some g → wf.heap[g]? = W5.heap[g]? := fun g hg hne => hKX.block g hg (by rw [hpo]; exact hne)
  have kb : ∀ g, g < wr.heap.size → v.ownBlock ≠ some g → g ≠ p.g → wf.heap[g]? = wr.heap[g]? := fun g hg hne hp => (kf g (by omega) hne).trans ((h5.block g hp).trans (h4.low.block g hg))
  have kc : ∀ g o, g < wr.heap.size → v.ownBlock ≠ some g → ¬ InSp p g o → wf.cell? ⟨g, o, none⟩ = wr.cell? ⟨g, o, none⟩ := fun g o hg hne hin => by
    rw [World.cell?_of_block (a := ⟨g, o, none⟩) (kf g (by omega) hne), h5.cell g o (by
      by_cases hgp : g = p.g
      · rcases Nat.lt_or_ge o p.o with ho | ho
        · exact .inr (.inl ho)
        · rcases Nat.lt_or_ge o (p.o + 5) with ho2 | ho2
          · exact absurd ⟨hgp, ho, ho2⟩ hin
          · exact .inr (.inr ho2)
      · exact .inl hgp)]
    exact World.cell?_of_block (a := ⟨g, o, none⟩) (h4.low.block g hg)
  have kS : ∀ g, S g → wf.heap[g]? = wr.heap[g]? := fun g hg => by
    have hlt := hS g hg
    have e1 := ((h5l.trans (hKX.below (base := w.heap.size) h5l.size (fun b hb => by rw [hpo] at hb; have := hown b hb; omega))).block g hlt)
    rw [e1, h.low.block g hlt]
  have klow : Below w.heap.size w wf := h5l.trans (hKX.below h5l.size (fun b hb => by rw [hpo] at hb; have := hown b hb; omega))
  -- new blocks
  have hLn : 0 < l.len → gl < W5.heap.size ∧ wf.heap[gl]? = W4.heap[gl]? := fun h0 => by
    obtain ⟨_, hl, _⟩ := h4.items h0
    have hlt : gl < W5.heap.size := by rw [h5.size]; exact hl
    refine ⟨hlt, (kf gl hlt (fun e => ?_)).trans (h5.block gl ?_)⟩
    · have := (hown gl e).1; have := h4.gl0; omega
    · have := h4.gl0; omega
  have hDn : 0 < d.len → gd < W5.heap.size ∧ wf.heap[gd]? = W4.heap[gd]? := fun h0 => by
    obtain ⟨_, hl, _⟩ := h4.entries h0
    have hlt : gd < W5.heap.size := by rw [h5.size]; exact hl
    refine ⟨hlt, (kf gd hlt (fun e => ?_)).trans (h5.block gd ?_)⟩
    · have := (hown gd e).1; have := h4.gd0; omega
    · have := h4.gd0; omega
  have hof : ∀ g, g < W5.heap.size → v.ownBlock ≠ some g → vf.ownBlock ≠ some g := fun g hg hne e => by
    rcases hKX.own g e with h1 | h1
    · exact hne (by rw [← hpo]; exact h1)
    · omega
  have hap := List.pairwise_append.1 h.apart
  refine ⟨klow, ?_, hOV, ?_, ?_, ?_, ?_⟩
  · rw [kb (w.heap.size + 1) (by have := row_lt _ _ _ h.res; exact this) (fun e => by have := (hown _ e).2; omega) (fun e => hpg1 e.symm)]
    exact h.res
  · intro q hq
    rcases List.mem_append.1 hq with hq | hq
    · obtain ⟨⟨c0, c1, c2, c3, c4, hf, hr⟩, q1, q2, q3, cur, T, hsh⟩ := h.pend q (by simp [hq])
      have hqlt : q.g < wr.heap.size := row_lt _ _ _ hsh
      have hqp : ApartSp q p := hap.2.2 q hq p (by simp)
      refine ⟨⟨c0, c1, c2, c3, c4, hf.keep (fun o h1 h2 => kc q.g o hqlt q3 (fun hin => ?_)), ObR.keep kS (fun _ h => h) _ hr⟩, q1, q2, hof q.g (by omega) q3, ?_⟩
      · obtain ⟨e, e1, e2⟩ := hin
        rcases hqp with h3 | h3 | h3
        · exact h3 e
        · omega
        · omega
      · by_cases hqg : q.g = p.g
        · obtain ⟨cur2, T2, e2⟩ := h5.shape
          exact ⟨cur2, T2, by rw [hqg, kf p.g (by omega) hpo1]; exact e2⟩
        · exact ⟨cur, T, by rw [kb q.g hqlt q3 hqg]; exact hsh⟩
    · rcases List.mem_append.1 hq with hq | hq
      · have h0 := obsSp_pos gl 0 l q hq
        have hg := obsSp_g gl l 0 q hq
        obtain ⟨_, hl, ⟨cur, T, hsh⟩, cs, hC, hcs⟩ := h4.items h0
        have hgl0 := h4.gl0
        refine ⟨obs_pend gl l cs 0 (ObsC.keep kS (fun _ h => h) l cs hC) (fun j u hj => (World.cell?_of_block (a := ⟨gl, 0 + j, none⟩) (hLn h0).2).trans (hcs j u hj)) q hq, by rw [hg]; omega, by rw [hg]; have := row_lt _ _ _ h.res; omega, by rw [hg]; exact hof gl (hLn h0).1 (fun e => by have := (hown gl e).1; omega), cur, T, by rw [hg, (hLn h0).2]; exact hsh⟩
      · have h0 := ensSp_pos gd 0 d q hq
        have hg := ensSp_g gd d 0 q hq
        obtain ⟨_, hl, ⟨cur, T, hsh⟩, cs, hC, hcs⟩ := h4.entries h0
        have hgd0 := h4.gd0
        refine ⟨ens_pend gd d cs 0 (EnsC.keep kS (fun _ h => h) d cs hC) (fun j u hj => (World.cell?_of_block (a := ⟨gd, 0 + j, none⟩) (hDn h0).2).trans (hcs j u hj)) q hq, by rw [hg]; omega, by rw [hg]; have := row_lt _ _ _ h.res; omega, by rw [hg]; exact hof gd (hDn h0).1 (fun e => by have := (hown gd e).1; omega), cur, T, by rw [hg, (hDn h0).2]; exact hsh⟩
  · rw [List.pairwise_append]
    refine ⟨hap.1, ?_, fun q hq r hr => ?_⟩
    · rw [List.pairwise_append]
      refine ⟨obsSp_apart gl l 0, ensSp_apart gd d 0, fun q hq r hr => .inl ?_⟩
      rw [obsSp_g gl l 0 q hq, ensSp_g gd d 0 r hr]; exact h4.ne
    · obtain ⟨_, q1, q2, q3, cur, T, hsh⟩ := h.pend q (by simp [hq])
      have hqlt : q.g < wr.heap.size := row_lt _ _ _ hsh
      rcases List.mem_append.1 hr with hr | hr
      · exact .inl (by rw [obsSp_g gl l 0 r hr]; have := h4.gl0; omega)
      · exact .inl (by rw [ensSp_g gd d 0 r hr]; have := h4.gd0; omega)
  · intro i q hq
    rw [List.getElem?_append] at hq
    split at hq
    · rename_i hi
      exact h.bound i q (by rw [List.getElem?_append_left hi]; exact hq)
    · rename_i hi
      have hb := h.bound P0.length p (by simp)
      obtain ⟨hb1, hb2⟩ := hb
      rw [hx] at hb1 hb2
      rw [htO] at hb1
      unfold wdO at hb2
      obtain ⟨w1, w2, w3, w4⟩ := hb2
      have hm : ∀ t, t ≤ max (htL l) (htE d) → Wd * t + Wd ≤ Wd * (1 + max (htL l) (htE d)) := fun t ht => by
        have := Nat.mul_le_mul_left Wd (show t + 1 ≤ 1 + max (htL l) (htE d) by omega)
        rwa [Nat.mul_add, Nat.mul_one] at this
      rw [List.getElem?_append] at hq
      split at hq
      · rename_i hi2
        rw [obsSp_len] at hi2
        obtain ⟨_, _, h3⟩ := obsSp_get gl l 0 _ q hq
        have := hm (htO q.x) (by have := htL_get l _ _ h3; omega)
        exact ⟨by omega, wdL_get Wd l _ _ w3 h3⟩
      · rename_i hi2
        rw [obsSp_len] at hi2 hq
        obtain ⟨_, _, s, h3⟩ := ensSp_get gd d 0 _ q hq
        have := hm (htO q.x) (by have := htE_get d _ _ _ h3; omega)
        have hi3 := (List.getElem?_eq_some_iff.1 hq).1
        rw [ensSp_len] at hi3
        exact ⟨by omega, wdE_get Wd d _ _ _ w4 h3⟩
  · intro w' hs H2 H3
    refine h.wand w' (by omega) (fun g o h1 h2 h3 h6 => ?_) (fun q hq => ?_)
    · rw [H2 g o h1 (by omega) (hof g (by omega) h3) (fun q hq hin => ?_), kc g o h2 h3 (h6 p (by simp))]
      rcases List.mem_append.1 hq with hq | hq
      · exact h6 q (by simp [hq]) hin
      · rcases List.mem_append.1 hq with hq | hq
        · have := obsSp_g gl l 0 q hq; have := hin.1; have := h4.gl0; omega
        · have := ensSp_g gd d 0 q hq; have := hin.1; have := h4.gd0; omega
    · rcases List.mem_append.1 hq with hq | hq
      · exact H3 q (by simp [hq])
      · simp at hq; subst hq
        -- the spot itself
        have hnp : ∀ o, q.o ≤ o → o < q.o + 5 → ∀ r ∈ P0 ++ (obsSp gl 0 l ++ ensSp gd 0 d), ¬ InSp r q.g o := fun o ho1 ho2 r hr hin => by
          rcases List.mem_append.1 hr with hr | hr
          · rcases hap.2.2 r hr q (by simp) with e | e | e
            · exact e hin.1.symm
            · have := hin.2.2; omega
            · have := hin.2.1; omega
          · rcases List.mem_append.1 hr with hr | hr
            · have := obsSp_g gl l 0 r hr; have := hin.1; have := h4.gl0; omega
            · have := ensSp_g gd d 0 r hr; have := hin.1; have := h4.gd0; omega
        have hfw : Five w' q (.int .i64 k) (.int .i64 n) (.slice Ab b.length cb) (.slice Al l.len cl) (.slice Ad d.len cd) := by
          refine h5.five.keep (fun o ho1 ho2 => ?_)
          rw [H2 q.g o hpg (by omega) (hof q.g (by omega) hpo1) (hnp o ho1 ho2)]
          exact World.cell?_of_block (a := ⟨q.g, o, none⟩) (kf q.g (by omega) hpo1)
        have hnb : ∀ g, wr.heap.size ≤ g → g < W4.heap.size → v.ownBlock ≠ some g := fun g h1 h2 e => by have := (hown g e).1; omega
        refine ⟨_, _, _, _, _, hfw, ?_⟩
        rw [hx]
        unfold ObR
        refine ⟨rfl, rfl, hk, hn, ⟨Ab, b.length, cb, rfl, ?_⟩, ⟨Al, cl, rfl, h4.lcap, fun h0 => ?_⟩, ⟨Ad, cd, rfl, h4.dcap, fun h0 => ?_⟩⟩
        · obtain ⟨b1, b2, b3, b4⟩ := h4.byt
          refine ⟨b1, b2, b3, fun h0 => ?_⟩
          obtain ⟨g, o, e, ⟨e1, e2, e3, e4⟩, hc⟩ := b4 h0
          have hg5 : g < W5.heap.size := by rw [h5.size]; exact e2
          refine ⟨g, o, e, ⟨by omega, by omega, by omega⟩, fun i hi => ?_⟩
          rw [H2 g (o + i) (by omega) (by omega) (hof g hg5 (hnb g e1 e2)) (fun r hr hin => ?_), World.cell?_of_block (a := ⟨g, o + i, none⟩) (kf g hg5 (hnb g e1 e2)), World.cell?_of_block (a := ⟨g, o + i, none⟩) (h5.block g (by omega))]
          · exact hc i hi
          · rcases List.mem_append.1 hr with hr | hr
            · obtain ⟨_, _, _, _, cur, T, hsh⟩ := h.pend r (by simp [hr])
              have := row_lt _ _ _ hsh; have := hin.1; omega
            · rcases List.mem_append.1 hr with hr | hr
              · exact e3 (hin.1.trans (obsSp_g gl l 0 r hr))
              · exact e4 (hin.1.trans (ensSp_g gd d 0 r hr))
        · obtain ⟨e, hl, _⟩ := h4.items h0
          have := h4.gl0
          exact ⟨gl, 0, e, ⟨by omega, by have := (hLn h0).1; omega, by omega⟩, obs_done gl l 0 (fun r hr => H3 r (by simp [hr]))⟩
        · obtain ⟨e, hl, hsh, cs, hC, hcs⟩ := h4.entries h0
          have hgd0 := h4.gd0
          refine ⟨gd, 0, e, ⟨by omega, by have := (hDn h0).1; omega, by omega⟩, ens_done gd d 0 (fun i s y hy => ?_) (fun r hr => H3 r (by simp [hr]))⟩
          have hkey := ens_keys gd d cs 0 (EnsC.keep (fun g hg => h4.low.block g (by have := hS g hg; omega)) (fun _ h => h) d cs hC) hcs i s y hy
          rw [H2 gd (0 + i * 6) (by omega) (by have := (hDn h0).1; omega) (hof gd (hDn h0).1 (hnb gd hgd0 hl)) (fun r hr hin => ?_), World.cell?_of_block (a := ⟨gd, 0 + i * 6, none⟩) (hDn h0).2]
          · exact hkey
          · rcases List.mem_append.1 hr with hr | hr
            · obtain ⟨_, _, _, _, cur, T, hsh⟩ := h.pend r (by simp [hr])
              have := row_lt _ _ _ hsh; have := hin.1; omega
            · rcases List.mem_append.1 hr with hr | hr
              · exact h4.ne ((obsSp_g gl l 0 r hr).symm.trans hin.1.symm)
              · obtain ⟨j, hj⟩ := List.getElem?_of_mem hr
                obtain ⟨_, ho, _⟩ := ensSp_get gd d 0 j r hj
                have h1 := hin.2.1
                have h2 := hin.2.2
                omega
theorem row_block {w : World} {base e s n : Nat} {A : Option Addr} {c : Nat} {cs : List Value} (h : w.ownsRow base e s (.slice A n c) n cs) (h0 : 0 < n) : ∃ g, A = some ⟨g, 0, none⟩ ∧ base ≤ g ∧ g < w.heap.size ∧ (∃ cur T, w.heap[g]? = some (.cells cur T (0, 0))) ∧ CellsAt w g 0 cs := by
  obtain ⟨A2, c2, e2, hc, hx⟩ := row_shapeN h
  injection e2 with e2 _ e3
  subst e2 e3
  obtain ⟨g, e3, hb, hl, hcell⟩ := hx h0
  refine ⟨g, e3, hb, hl, ?_, hcell⟩
  rcases h.2 with ⟨_, hn⟩ | ⟨g', cap, cur, ev, _, hh, _⟩
  · omega
  · injection ev with ev
    rw [e3] at ev
    injection ev with ev
    injection ev with ev
    subst ev
    exact ⟨cur, _, hh⟩
theorem row_cap {w : World} {base e s n : Nat} {A : Option Addr} {c : Nat} {cs : List Value} (h : w.ownsRow base e s (.slice A n c) n cs) : n ≤ c ∧ c ≤ 9223372036854775807 := by
  obtain ⟨A2, c2, e2, hc, hx⟩ := row_shapeN h
  injection e2 with e2 _ e3
  subst e2 e3
  exact hc
/-- Out of the three calls of anew. -/
theorem new3_of {w wr W2 W3 W4 : World} {S : Nat → Prop} {b : List Int} {l : Obs} {d : Ens} {Ab Al Ad : Option Addr} {cb cl cd : Nat} {csl csd : List Value} (hbr : ∀ z ∈ b, 0 ≤ z ∧ z < 256)
    (o1 : W2.ownsRow wr.heap.size 5 1 (.slice Ab b.length cb) b.length (b.map (Value.int .u8))) (b1 : Below wr.heap.size wr W2) (o2 : W3.ownsRow W2.heap.size 27 5 (.slice Al l.len cl) l.len csl) (b2 : Below W2.heap.size W2 W3)
    (o3 : W4.ownsRow W3.heap.size 32 6 (.slice Ad d.len cd) d.len csd) (b3 : Below W3.heap.size W3 W4) (hL : ObsC wr S l csl) (hD : EnsC wr S d csd) : ∃ gl gd, New3 w wr W4 S b l d gl gd Ab Al Ad cb cl cd := by
  have s1 := b1.size
  have s2 := b2.size
  have s3 := b3.size
  obtain ⟨gl, hgl⟩ : ∃ gl, W2.heap.size ≤ gl ∧ (gl < W3.heap.size ∨ gl = W4.heap.size) ∧ (0 < l.len → Al = some ⟨gl, 0, none⟩ ∧ gl < W3.heap.size ∧ (∃ cur T, W3.heap[gl]? = some (.cells cur T (0, 0))) ∧ CellsAt W3 gl 0 csl) := by
    rcases Nat.eq_zero_or_pos l.len with h0 | h0
    · exact ⟨W4.heap.size, by omega, .inr rfl, fun h => by omega⟩
    · obtain ⟨g, e, h1, h2, h3, h4⟩ := row_block o2 h0
      exact ⟨g, h1, .inl h2, fun _ => ⟨e, h2, h3, h4⟩⟩
  obtain ⟨gd, hgd⟩ : ∃ gd, W3.heap.size ≤ gd ∧ (gd < W4.heap.size ∨ gd = W4.heap.size + 1) ∧ (0 < d.len → Ad = some ⟨gd, 0, none⟩ ∧ gd < W4.heap.size ∧ (∃ cur T, W4.heap[gd]? = some (.cells cur T (0, 0))) ∧ CellsAt W4 gd 0 csd) := by
    rcases Nat.eq_zero_or_pos d.len with h0 | h0
    · exact ⟨W4.heap.size + 1, by omega, .inr rfl, fun h => by omega⟩
    · obtain ⟨g, e, h1, h2, h3, h4⟩ := row_block o3 h0
      exact ⟨g, h1, .inl h2, fun _ => ⟨e, h2, h3, h4⟩⟩
  refine ⟨gl, gd, ⟨b1.trans ((b2.trans (b3.mono s2)).mono s1), ⟨rfl, row_cap o1, hbr, fun h0 => ?_⟩, by omega, by omega, by omega, row_cap o2, row_cap o3, fun h0 => ?_, fun h0 => ?_⟩⟩
  · obtain ⟨g, e, h1, h2, h3, h4⟩ := row_block o1 h0
    refine ⟨g, 0, e, ⟨h1, by omega, by omega, by omega⟩, fun i hi => ?_⟩
    have hk := (b2.trans (b3.mono s2)).block g h2
    rw [World.cell?_of_block (a := ⟨g, 0 + i, none⟩) hk]
    refine h4 i _ ?_
    simp [List.getD, hi]
  · obtain ⟨e, h2, ⟨cur, T, h3⟩, h4⟩ := hgl.2.2 h0
    exact ⟨e, by omega, ⟨cur, T, (b3.block gl h2).trans h3⟩, csl, hL, fun j u hj => (World.cell?_of_block (a := ⟨gl, 0 + j, none⟩) (b3.block gl h2)).trans (h4 j u hj)⟩
  · obtain ⟨e, h2, h3, h4⟩ := hgd.2.2 h0
    exact ⟨e, h2, h3, csd, hD, h4⟩
theorem St3.of {W4 : World} {p : Sp} {c0 c1 c2 c3 c4 : Value} (hf : Five W4 p c0 c1 c2 c3 c4) (hsh : ∃ cur T, W4.heap[p.g]? = some (.cells cur T (0, 0))) (vb vl vd : Value) :
    St3 W4 (((W4.setCell ⟨p.g, p.o + 2, none⟩ vb).setCell ⟨p.g, p.o + 3, none⟩ vl).setCell ⟨p.g, p.o + 4, none⟩ vd) p c0 c1 vb vl vd := by
  obtain ⟨h0, h1, h2, h3, h4⟩ := hf
  have ne : ∀ (W : World) (g o o2 : Nat) (v : Value), (g ≠ p.g ∨ o ≠ o2) → (W.setCell ⟨p.g, o2, none⟩ v).cell? ⟨g, o, none⟩ = W.cell? ⟨g, o, none⟩ := fun W g o o2 v h => by
    refine World.cell?_setCell_other _ _ _ _ (fun e => ?_)
    injection e with e1 e2
    rcases h with h | h
    · exact h e1.symm
    · exact h e2.symm
  refine ⟨by simp [World.setCell], ⟨?_, ?_, ?_, ?_, ?_⟩, fun g o h => ?_, fun g h => ?_, ?_⟩
  · rw [ne _ _ _ _ _ (.inr (by omega)), ne _ _ _ _ _ (.inr (by omega)), ne _ _ _ _ _ (.inr (by omega))]; exact h0
  · rw [ne _ _ _ _ _ (.inr (by omega)), ne _ _ _ _ _ (.inr (by omega)), ne _ _ _ _ _ (.inr (by omega))]; exact h1
  · rw [ne _ _ _ _ _ (.inr (by omega)), ne _ _ _ _ _ (.inr (by omega))]
    exact World.cell?_setCell_same _ _ _ h2
  · rw [ne _ _ _ _ _ (.inr (by omega))]
    refine World.cell?_setCell_same _ _ _ (u := c3) ?_
    rw [ne _ _ _ _ _ (.inr (by omega))]; exact h3
  · refine World.cell?_setCell_same _ _ _ (u := c4) ?_
    rw [ne _ _ _ _ _ (.inr (by omega)), ne _ _ _ _ _ (.inr (by omega))]; exact h4
  · rw [ne _ _ _ _ _ (by omega), ne _ _ _ _ _ (by omega), ne _ _ _ _ _ (by omega)]
  · exact (set_blk9 _ p.g _ g _ h).trans ((set_blk9 _ p.g _ g _ h).trans (set_blk9 _ p.g _ g _ h))
  · obtain ⟨cur, T, e⟩ := hsh
    have hs : ∀ (W : World) (cur : Array Value) (i : Nat) (v : Value), W.heap[p.g]? = some (.cells cur T (0, 0)) → ∃ cur', (W.setCell ⟨p.g, i, none⟩ v).heap[p.g]? = some (.cells cur' T (0, 0)) := fun W cur i v e => ⟨cur.set! i v, by simp [World.setCell, Array.getElem?_modify, e]⟩
    obtain ⟨_, e1⟩ := hs _ _ (p.o + 2) vb e
    obtain ⟨_, e2⟩ := hs _ _ (p.o + 3) vl e1
    obtain ⟨cur3, e3⟩ := hs _ _ (p.o + 4) vd e2
    exact ⟨cur3, T, e3⟩
theorem OwnV.pop {w : World} {base : Nat} {e : TypeId} {gS n c : Nat} {xs : List Value} {u : Value} (h : OwnV w base e (.slice (some ⟨gS, 0, none⟩) (n + 1) c) (xs ++ [u])) (hn : xs.length = n) : OwnV w base e (.slice (some ⟨gS, 0, none⟩) n c) xs := by
  subst hn
  refine ⟨by simp, ?_⟩
  rcases h.2 with ⟨h0, _⟩ | ⟨g, cap, cur, ev, hb, hh, hc, hm, hs, ht⟩
  · cases h0
  · injection ev with e1 e2 e3
    injection e1 with e1
    injection e1 with e1
    subst e1 e3
    refine .inr ⟨gS, c, cur, rfl, hb, hh, by rw [List.length_append] at hc; simp at hc; omega, hm, hs, ?_⟩
    have := congrArg (List.take xs.length) ht
    rw [List.take_take] at this
    simpa using this
/-- One more pointer, out of a literal. -/
theorem OwnV.lit1 {w : World} {base : Nat} {v : Value} {xs : List Value} (h : OwnV w base 62 v xs) (g o : Nat) (hl : xs.length ≤ 1000000000) (hbase : base ≤ w.heap.size) :
    ∃ A c w', (Builtin.append_ #[63, 63] 63 #[v, .slice (some ⟨w.heap.size, 0, none⟩) 1 1]).run Try.prog (w.alloc (.cells #[.pointer (some ⟨g, o, none⟩)] 62)) = .ok (.slice A (xs.length + 1) c) w' ∧ OwnV w' base 62 (.slice A (xs.length + 1) c) (xs ++ [.pointer (some ⟨g, o, none⟩)]) ∧ KeepX v w (.slice A (xs.length + 1) c) w' := by
  obtain ⟨i0, hi, hz0, hz1, hz2⟩ := info_parts (show (Try.prog.info? 62).map (fun i => (i.zero, i.size, i.bytes)) = some (some (.pointer none), 1, 8) by kernel_rfl)
  have hb1 : Below w.heap.size w (w.alloc (.cells #[.pointer (some ⟨g, o, none⟩)] 62)) := (Below.refl _ _).alloc (Nat.le_refl _) _
  obtain ⟨v', w', hr, ho, hk, A, c, rfl⟩ := (h.low hb1).append1 63 63 i0 _ 8 Try.underlying63 hi hz0 hz1 hz2 rfl (by omega) w.heap.size (.pointer (some ⟨g, o, none⟩)) (by rw [cell_of_row _ _ 0 _ _ (0, 0) (heap_alloc_new w _)]; rfl) rfl hl (Nat.le_trans hbase hb1.size)
  exact ⟨A, c, w', hr, ho, (KeepX.ofBelow hb1).trans hk⟩
def spSum : List Sp → Nat
  | [] => 0
  | p :: ps => p.x.sz + spSum ps
theorem spSum_app : ∀ (a b : List Sp), spSum (a ++ b) = spSum a + spSum b
  | [], b => by simp [spSum]
  | p :: ps, b => by rw [List.cons_append, spSum, spSum_app ps b, spSum]; omega
theorem spSum_obs (g : Nat) : ∀ (l : Obs) (o : Nat), spSum (obsSp g o l) = l.sz
  | .nil, o => rfl
  | .cons x xs, o => by rw [obsSp, spSum, spSum_obs g xs, Obs.sz]
theorem spSum_ens (g : Nat) : ∀ (l : Ens) (o : Nat), spSum (ensSp g o l) = l.sz
  | .nil, o => rfl
  | .cons s x xs, o => by rw [ensSp, spSum, spSum_ens g xs, Ens.sz]
theorem CyS.start {w : World} {S : Nat → Prop} {x : Ob} {c0 c1 c2 c3 c4 : Value} {K W : Nat} (hx : ObR w S x c0 c1 c2 c3 c4) (hS : ∀ g, S g → g < w.heap.size) (hW : wdO W x) (hK : W * htO x ≤ K) :
    CyS w (((w.alloc (.cells #[c0, c1, c2, c3, c4] 27)).alloc (.cells #[.int .i64 0, .int .i64 0, .slice none 0 0, .slice none 0 0, .slice none 0 0] 27)).alloc (.cells #[.pointer (some ⟨w.heap.size, 0, none⟩)] 62)) S (.slice (some ⟨w.heap.size + 1 + 1, 0, none⟩) 1 1) [⟨w.heap.size, 0, x⟩] x K W := by
  have a1 := (Below.refl w.heap.size w).alloc (Nat.le_refl _) (.cells #[c0, c1, c2, c3, c4] 27)
  have n1 := heap_alloc_new w (.cells #[c0, c1, c2, c3, c4] 27)
  have z1 : (w.alloc (.cells #[c0, c1, c2, c3, c4] 27)).heap.size = w.heap.size + 1 := by simp
  generalize w.alloc (.cells #[c0, c1, c2, c3, c4] 27) = W1 at *
  have a2 := (Below.refl W1.heap.size W1).alloc (Nat.le_refl _) (.cells #[.int .i64 0, .int .i64 0, .slice none 0 0, .slice none 0 0, .slice none 0 0] 27)
  have n2 := heap_alloc_new W1 (.cells #[.int .i64 0, .int .i64 0, .slice none 0 0, .slice none 0 0, .slice none 0 0] 27)
  have z2 : (W1.alloc (.cells #[.int .i64 0, .int .i64 0, .slice none 0 0, .slice none 0 0, .slice none 0 0] 27)).heap.size = w.heap.size + 1 + 1 := by simp; omega
  generalize W1.alloc (.cells #[.int .i64 0, .int .i64 0, .slice none 0 0, .slice none 0 0, .slice none 0 0] 27) = W2 at *
  have a3 := (Below.refl W2.heap.size W2).alloc (Nat.le_refl _) (.cells #[.pointer (some ⟨w.heap.size, 0, none⟩)] 62)
  have n3 := heap_alloc_new W2 (.cells #[.pointer (some ⟨w.heap.size, 0, none⟩)] 62)
  have z3 : (W2.alloc (.cells #[.pointer (some ⟨w.heap.size, 0, none⟩)] 62)).heap.size = w.heap.size + 3 := by simp; omega
  generalize W2.alloc (.cells #[.pointer (some ⟨w.heap.size, 0, none⟩)] 62) = W3 at *
  rw [z1] at n2
  rw [z2] at n3
  have e1 : W3.heap[w.heap.size]? = some (.cells #[c0, c1, c2, c3, c4] 27 (0, 0)) := (a3.block _ (by omega)).trans ((a2.block _ (by omega)).trans n1)
  have e2 := (a3.block (w.heap.size + 1) (by omega)).trans n2
  have lo : Below w.heap.size w W3 := a1.trans ((a2.mono (by omega)).trans (a3.mono (by omega)))
  refine ⟨lo, e2, ⟨rfl, .inr ⟨_, 1, _, rfl, by omega, n3, Nat.le_refl _, by decide, rfl, rfl⟩⟩, fun p hp => ?_, List.pairwise_singleton _ _, fun i p hp => ?_, fun w' hs h1 h2 => h2 _ (by simp)⟩
  · simp at hp; subst hp
    refine ⟨⟨c0, c1, c2, c3, c4, ⟨cell_of_row _ _ 0 _ _ (0, 0) e1, cell_of_row _ _ 1 _ _ (0, 0) e1, cell_of_row _ _ 2 _ _ (0, 0) e1, cell_of_row _ _ 3 _ _ (0, 0) e1, cell_of_row _ _ 4 _ _ (0, 0) e1⟩, ObR.keep (fun g hg => lo.block g (hS g hg)) (fun _ h => h) x hx⟩, Nat.le_refl _, by dsimp only; omega, fun e => by injection e with e; dsimp only at e; omega, _, _, e1⟩
  · match i, hp with
    | 0, hp => simp at hp; subst hp; exact ⟨by dsimp only; omega, hW⟩
    | i + 1, hp => simp at hp
end Go.Proofs.Ytkloipjkialakaa
