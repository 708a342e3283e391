/- Contracts of functions that the law calls, and what they lean on (a part). -/
import Derived.Test.YtliieeagbpmcgaaDoorPu35
namespace Go.Proofs.YtliieeagbpmcgaaDoor
section
open Go.RowKit Go.Sort
set_option linter.unusedVariables false
set_option maxRecDepth 100000
structure Part where
  a : Nat
  x : Ob
  c0 : Value
  c1 : Value
  c2 : Value
  c3 : Value
  c4 : Value
def Part.val (p : Part) : Value := .agg #[p.c0, p.c1, p.c2, p.c3, p.c4]
mutual
def WkO (w : World) (S : Nat → Prop) (a : Nat) : Ob → Value → Value → List Part → Prop
  | .mk k n b l d, c3, c4, ys =>
    if k = 6 then (∃ A m c g o, c3 = .slice A m c ∧ m = l.len ∧ (l.len ≤ c ∧ c ≤ 9223372036854775807) ∧ (0 < l.len → A = some ⟨g, o, none⟩ ∧ S g) ∧ WkL w S (a + 1) l g o ys)
    else if k = 7 ∨ k = 8 then (∃ A m c g o, c4 = .slice A m c ∧ m = d.len ∧ (d.len ≤ c ∧ c ≤ 9223372036854775807) ∧ (0 < d.len → A = some ⟨g, o, none⟩ ∧ S g) ∧ WkE w S (a + 1) d g o ys)
    else ys = []
def WkL (w : World) (S : Nat → Prop) (a : Nat) : Obs → Nat → Nat → List Part → Prop
  | .nil, g, o, ys => ys = []
  | .cons x xs, g, o, ys => ∃ c0 c1 c2 c3 c4 y1 y2, (w.cell? ⟨g, o, none⟩ = some c0 ∧ w.cell? ⟨g, o + 1, none⟩ = some c1 ∧ w.cell? ⟨g, o + 2, none⟩ = some c2 ∧ w.cell? ⟨g, o + 3, none⟩ = some c3 ∧ w.cell? ⟨g, o + 4, none⟩ = some c4) ∧ ObR w S x c0 c1 c2 c3 c4 ∧ (okO x ∧ a + htO x ≤ 100000000) ∧ WkO w S a x c3 c4 y1 ∧ WkL w S a xs g (o + 5) y2 ∧ ys = ⟨a, x, c0, c1, c2, c3, c4⟩ :: (y1 ++ y2)
def WkE (w : World) (S : Nat → Prop) (a : Nat) : Ens → Nat → Nat → List Part → Prop
  | .nil, g, o, ys => ys = []
  | .cons s x xs, g, o, ys => ∃ c0 c1 c2 c3 c4 y1 y2, (w.cell? ⟨g, o, none⟩ = some (.string s) ∧ w.cell? ⟨g, o + 1, none⟩ = some c0 ∧ w.cell? ⟨g, o + 2, none⟩ = some c1 ∧ w.cell? ⟨g, o + 3, none⟩ = some c2 ∧ w.cell? ⟨g, o + 4, none⟩ = some c3 ∧ w.cell? ⟨g, o + 5, none⟩ = some c4) ∧ ObR w S x c0 c1 c2 c3 c4 ∧ (okO x ∧ a + htO x ≤ 100000000) ∧ WkO w S a x c3 c4 y1 ∧ WkE w S a xs g (o + 6) y2 ∧ ys = ⟨a, x, c0, c1, c2, c3, c4⟩ :: (y1 ++ y2)
end
mutual
theorem WkO.ex {w : World} {S : Nat → Prop} : ∀ (x : Ob) (a : Nat) (c0 c1 c2 c3 c4 : Value), ObR w S x c0 c1 c2 c3 c4 → okO x → a + htO x ≤ 100000000 → ∃ ys, WkO w S a x c3 c4 ys
  | .mk k n b l d, a, c0, c1, c2, c3, c4, h, hok, hht => by
    unfold okO at hok
    rw [htO] at hht
    unfold ObR at h
    obtain ⟨-, -, -, -, -, ⟨A3, c3', rfl, hc3, h3⟩, ⟨A4, c4', rfl, hc4, h4⟩⟩ := h
    unfold WkO
    by_cases h6 : k = 6
    · simp only [if_pos h6]
      rcases Nat.eq_zero_or_pos l.len with h0 | h0
      · have hn : l = .nil := by cases l with | nil => rfl | cons x xs => rw [Obs.len] at h0; omega
        subst hn
        exact ⟨[], A3, _, c3', 0, 0, rfl, rfl, hc3, fun h => absurd h (by omega), by unfold WkL; rfl⟩
      · obtain ⟨g, o, rfl, hg, hr⟩ := h3 h0
        obtain ⟨ys, hy⟩ := WkL.ex l (a + 1) g o hr hok.2.2.2.1 (by omega)
        exact ⟨ys, _, _, c3', g, o, rfl, rfl, hc3, fun _ => ⟨rfl, hg⟩, hy⟩
    · simp only [if_neg h6]
      by_cases h7 : k = 7 ∨ k = 8
      · simp only [if_pos h7]
        rcases Nat.eq_zero_or_pos d.len with h0 | h0
        · have hn : d = .nil := by cases d with | nil => rfl | cons s x xs => rw [Ens.len] at h0; omega
          subst hn
          exact ⟨[], A4, _, c4', 0, 0, rfl, rfl, hc4, fun h => absurd h (by omega), by unfold WkE; rfl⟩
        · obtain ⟨g, o, rfl, hg, hr⟩ := h4 h0
          obtain ⟨ys, hy⟩ := WkE.ex d (a + 1) g o hr hok.2.2.2.2 (by omega)
          exact ⟨ys, _, _, c4', g, o, rfl, rfl, hc4, fun _ => ⟨rfl, hg⟩, hy⟩
      · simp only [if_neg h7]
        exact ⟨[], rfl⟩
theorem WkL.ex {w : World} {S : Nat → Prop} : ∀ (l : Obs) (a g o : Nat), ObsR w S l g o → okL l → a + htL l ≤ 100000000 → ∃ ys, WkL w S a l g o ys
  | .nil, a, g, o, h, _, _ => ⟨[], by unfold WkL; rfl⟩
  | .cons x xs, a, g, o, h, hok, hht => by
    unfold okL at hok
    rw [htL] at hht
    unfold ObsR at h
    obtain ⟨⟨c0, c1, c2, c3, c4, k0, k1, k2, k3, k4, hx⟩, hxs⟩ := h
    obtain ⟨y1, h1⟩ := WkO.ex x a c0 c1 c2 c3 c4 hx hok.1 (by omega)
    obtain ⟨y2, h2⟩ := WkL.ex xs a g (o + 5) hxs hok.2 (by omega)
    refine ⟨⟨a, x, c0, c1, c2, c3, c4⟩ :: (y1 ++ y2), ?_⟩
    unfold WkL
    exact ⟨c0, c1, c2, c3, c4, y1, y2, ⟨k0, k1, k2, k3, k4⟩, hx, ⟨hok.1, by omega⟩, h1, h2, rfl⟩
theorem WkE.ex {w : World} {S : Nat → Prop} : ∀ (d : Ens) (a g o : Nat), EnsR w S d g o → okE d → a + htE d ≤ 100000000 → ∃ ys, WkE w S a d g o ys
  | .nil, a, g, o, h, _, _ => ⟨[], by unfold WkE; rfl⟩
  | .cons s x xs, a, g, o, h, hok, hht => by
    unfold okE at hok
    rw [htE] at hht
    unfold EnsR at h
    obtain ⟨⟨c0, c1, c2, c3, c4, ks, k0, k1, k2, k3, k4, hx⟩, hxs⟩ := h
    obtain ⟨y1, h1⟩ := WkO.ex x a c0 c1 c2 c3 c4 hx hok.1 (by omega)
    obtain ⟨y2, h2⟩ := WkE.ex xs a g (o + 6) hxs hok.2 (by omega)
    refine ⟨⟨a, x, c0, c1, c2, c3, c4⟩ :: (y1 ++ y2), ?_⟩
    unfold WkE
    exact ⟨c0, c1, c2, c3, c4, y1, y2, ⟨ks, k0, k1, k2, k3, k4⟩, hx, ⟨hok.1, by omega⟩, h1, h2, rfl⟩
end
mutual
theorem WkO.obs {w : World} {S : Nat → Prop} : ∀ (x : Ob) (a : Nat) (c3 c4 : Value) (ys : List Part), WkO w S a x c3 c4 ys → ∀ p ∈ ys, ObR w S p.x p.c0 p.c1 p.c2 p.c3 p.c4
  | .mk k n b l d, a, c3, c4, ys, h => by
    unfold WkO at h
    split at h
    · obtain ⟨A, m, c, g, o, _, _, _, _, h⟩ := h
      exact WkL.obs l (a + 1) g o ys h
    · split at h
      · obtain ⟨A, m, c, g, o, _, _, _, _, h⟩ := h
        exact WkE.obs d (a + 1) g o ys h
      · subst h
        intro p hp
        cases hp
theorem WkL.obs {w : World} {S : Nat → Prop} : ∀ (l : Obs) (a g o : Nat) (ys : List Part), WkL w S a l g o ys → ∀ p ∈ ys, ObR w S p.x p.c0 p.c1 p.c2 p.c3 p.c4
  | .nil, a, g, o, ys, h => by
    unfold WkL at h
    subst h
    intro p hp
    cases hp
  | .cons x xs, a, g, o, ys, h => by
    unfold WkL at h
    obtain ⟨c0, c1, c2, c3, c4, y1, y2, _, hx, _, h1, h2, rfl⟩ := h
    intro p hp
    rcases List.mem_cons.1 hp with rfl | hp
    · exact hx
    · rcases List.mem_append.1 hp with hp | hp
      · exact WkO.obs x a c3 c4 y1 h1 p hp
      · exact WkL.obs xs a g (o + 5) y2 h2 p hp
theorem WkE.obs {w : World} {S : Nat → Prop} : ∀ (d : Ens) (a g o : Nat) (ys : List Part), WkE w S a d g o ys → ∀ p ∈ ys, ObR w S p.x p.c0 p.c1 p.c2 p.c3 p.c4
  | .nil, a, g, o, ys, h => by
    unfold WkE at h
    subst h
    intro p hp
    cases hp
  | .cons s x xs, a, g, o, ys, h => by
    unfold WkE at h
    obtain ⟨c0, c1, c2, c3, c4, y1, y2, _, hx, _, h1, h2, rfl⟩ := h
    intro p hp
    rcases List.mem_cons.1 hp with rfl | hp
    · exact hx
    · rcases List.mem_append.1 hp with hp | hp
      · exact WkO.obs x a c3 c4 y1 h1 p hp
      · exact WkE.obs xs a g (o + 6) y2 h2 p hp
end
/-- How deep an object is without what is in it. -/
def layN (x : Ob) : Nat := if x.kind = 6 ∨ x.kind = 7 ∨ x.kind = 8 then 1 else 0
def longB (k : Int) (b : List Int) : Bool := if k = 4 then decide (b.length ≤ 32767) else if k = 5 then nameZ b else if k = 8 then decide (b.length ≤ 16777216) else true
def FillP (k n : Int) (b l d : Nat) : Prop := (n = 0 ∨ k = 1 ∨ k = 2 ∨ k = 3 ∨ k = 9) ∧ (b = 0 ∨ k = 4 ∨ k = 5 ∨ k = 8) ∧ (l = 0 ∨ k = 6) ∧ (d = 0 ∨ k = 7 ∨ k = 8)
/-- What may be, of one object without what is in it. -/
def SoundP : Ob → Prop
  | .mk k n b l d => ((0 ≤ k ∧ k ≤ 9) ∧ FillP k n b.length l.len d.len) ∧ (numB k n = true ∧ longB k b = true) ∧ (¬ strmL l ∧ ¬ wrongE d ∧ riseP d)
def PartOk (p : Part) : Prop := p.a + layN p.x ≤ 28 ∧ SoundP p.x
theorem strm_cons (x : Ob) (xs : Obs) : strmL (.cons x xs) ↔ x.kind = 8 ∨ strmL xs := by
  constructor
  · rintro ⟨i, y, hy, hk⟩
    cases i with
    | zero => simp [Obs.get?] at hy; subst hy; exact .inl hk
    | succ i => exact .inr ⟨i, y, by simpa [Obs.get?] using hy, hk⟩
  · rintro (h | ⟨i, y, hy, hk⟩)
    · exact ⟨0, x, by simp [Obs.get?], h⟩
    · exact ⟨i + 1, y, by simpa [Obs.get?] using hy, hk⟩
theorem wrong_cons (s : ByteArray) (x : Ob) (xs : Ens) : wrongE (.cons s x xs) ↔ wrongB s x.kind = true ∨ wrongE xs := by
  constructor
  · rintro ⟨i, t, y, hy, hk⟩
    cases i with
    | zero => simp [Ens.get?] at hy; obtain ⟨rfl, rfl⟩ := hy; exact .inl hk
    | succ i => exact .inr ⟨i, t, y, by simpa [Ens.get?] using hy, hk⟩
  · rintro (h | ⟨i, t, y, hy, hk⟩)
    · exact ⟨0, s, x, by simp [Ens.get?], h⟩
    · exact ⟨i + 1, t, y, by simpa [Ens.get?] using hy, hk⟩
theorem rise_nil : riseP .nil := fun j s x t y h => by simp [Ens.get?] at h
theorem rise_one (s : ByteArray) (x : Ob) : riseP (.cons s x .nil) := fun j s' x' t y h h2 => by cases j <;> simp [Ens.get?] at h2
theorem rise_cons (s t : ByteArray) (x y : Ob) (xs : Ens) : riseP (.cons s x (.cons t y xs)) ↔ ltS s t = true ∧ riseP (.cons t y xs) := by
  constructor
  · intro h
    refine ⟨h 0 s x t y (by simp [Ens.get?]) (by simp [Ens.get?]), fun j s' x' t' y' h1 h2 => h (j + 1) s' x' t' y' (by simpa [Ens.get?] using h1) (by simpa [Ens.get?] using h2)⟩
  · rintro ⟨h1, h2⟩ j s' x' t' y' h3 h4
    cases j with
    | zero =>
      simp [Ens.get?] at h3 h4
      obtain ⟨rfl, rfl⟩ := h3
      obtain ⟨rfl, rfl⟩ := h4
      exact h1
    | succ j => exact h2 j s' x' t' y' (by simpa [Ens.get?] using h3) (by simpa [Ens.get?] using h4)
theorem null_iff (k : Int) : nullB k = false ↔ (1 ≤ k ∧ k ≤ 9) := by
  unfold nullB usesZ
  rw [decide_eq_false_iff_not]
  constructor
  · intro h
    by_cases h1 : 1 ≤ k ∧ k ≤ 9
    · exact h1
    · exact absurd (by rw [if_neg (by omega), if_neg (by omega), if_neg (by omega), if_neg (by omega), if_neg (by omega)]) h
  · intro h
    repeat' split
    all_goals omega
theorem wrong_no (s : ByteArray) (k : Int) : ¬ wrongB s k = true ↔ nameS s = true ∧ (1 ≤ k ∧ k ≤ 9) ∧ k ≠ 8 := by
  unfold wrongB
  rw [Bool.not_eq_true, Bool.or_eq_false_iff, Bool.or_eq_false_iff, null_iff, decide_eq_false_iff_not]
  cases nameS s <;> simp
theorem strm_nil : ¬ strmL .nil := by rintro ⟨i, x, hx, _⟩; simp [Obs.get?] at hx
theorem wrong_nil : ¬ wrongE .nil := by rintro ⟨i, s, x, hx, _⟩; simp [Ens.get?] at hx
theorem badF_no (k : Int) (lb ll ld : Nat) : badF k lb ll ld = false ↔ (lb = 0 ∨ k = 4 ∨ k = 5 ∨ k = 8) ∧ (ll = 0 ∨ k = 6) ∧ (ld = 0 ∨ k = 7 ∨ k = 8) := by
  unfold badF
  rw [decide_eq_false_iff_not]
  omega
def restO (k n : Int) (b : List Int) (l : Obs) (d : Ens) (dp : Int) : Bool :=
  if k = 1 then decide (n = 0 ∨ n = 1) else if k = 2 then decide (-2147483647 ≤ n ∧ n ≤ 2147483647) else if k = 3 then inZ n else if k = 9 then decide (1 ≤ n ∧ n ≤ 8388607) else if n ≠ 0 then false else if k = 0 then true else if k = 4 then decide (b.length ≤ 32767) else if k = 5 then nameZ b else if k = 6 then (mayL l dp && decide (1 ≤ dp)) else if k = 7 ∨ k = 8 then (if dp < 1 ∨ 16777216 < b.length then false else mayE d none dp) else false
theorem mayO_rest (k n : Int) (b : List Int) (l : Obs) (d : Ens) (dp : Int) : mayO (.mk k n b l d) dp = true ↔ badF k b.length l.len d.len = false ∧ restO k n b l d dp = true := by
  rw [mayO]
  unfold restO
  cases badF k b.length l.len d.len <;> simp
mutual
theorem WkO.may {w : World} {S : Nat → Prop} : ∀ (x : Ob) (a : Nat) (c3 c4 : Value) (ys : List Part), WkO w S a x c3 c4 ys → a ≤ 28 → (mayO x (28 - (a : Int)) = true ↔ (a + layN x ≤ 28 ∧ SoundP x) ∧ ∀ p ∈ ys, PartOk p)
  | .mk k n b l d, a, c3, c4, ys, h, ha28 => by
    unfold WkO at h
    rw [mayO_rest]
    have hsp : ((a + layN (.mk k n b l d) ≤ 28 ∧ SoundP (.mk k n b l d)) ∧ ∀ p ∈ ys, PartOk p) ↔ badF k b.length l.len d.len = false ∧ ((a + layN (.mk k n b l d) ≤ 28 ∧ ((0 ≤ k ∧ k ≤ 9) ∧ (n = 0 ∨ k = 1 ∨ k = 2 ∨ k = 3 ∨ k = 9)) ∧ (numB k n = true ∧ longB k b = true) ∧ (¬ strmL l ∧ ¬ wrongE d ∧ riseP d)) ∧ ∀ p ∈ ys, PartOk p) := by
      unfold SoundP FillP
      rw [badF_no]
      constructor
      · rintro ⟨⟨q1, ⟨q2, q3, q4⟩, q5, q6⟩, q7⟩
        exact ⟨q4, ⟨q1, ⟨q2, q3⟩, q5, q6⟩, q7⟩
      · rintro ⟨q4, ⟨q1, ⟨q2, q3⟩, q5, q6⟩, q7⟩
        exact ⟨⟨q1, ⟨q2, q3, q4⟩, q5, q6⟩, q7⟩
    rw [hsp]
    refine and_congr_right fun hbad => ?_
    clear hsp
    rw [badF_no] at hbad
    obtain ⟨hb, hl, hd⟩ := hbad
    have hkind : (Ob.mk k n b l d).kind = k := rfl
    unfold layN
    rw [hkind]
    by_cases h6 : k = 6
    · subst h6
      rw [if_pos rfl] at h
      obtain ⟨A, m, c, g, o, _, _, _, _, h⟩ := h
      have ih := WkL.may l a g o ys h
      have hdn : d = .nil := by cases d with | nil => rfl | cons s x xs => rw [Ens.len] at hd; omega
      subst hdn
      have hbn : b = [] := List.length_eq_zero_iff.1 (by omega)
      subst hbn
      unfold restO numB longB
      by_cases ha : 1 ≤ (28 - (a : Int))
      · have ih := ih ha
        have ha2 : a + 1 ≤ 28 := by omega
        simp [wrong_nil, rise_nil, ih, ha, ha2, and_assoc]
      · have ha2 : ¬ a + 1 ≤ 28 := by omega
        simp [ha, ha2]
    · rw [if_neg h6] at h
      have hln : l = .nil := by cases l with | nil => rfl | cons x xs => rw [Obs.len] at hl; omega
      subst hln
      by_cases h78 : k = 7 ∨ k = 8
      · rw [if_pos h78] at h
        obtain ⟨A, m, c, g, o, _, _, _, _, h⟩ := h
        have ih := WkE.may d none a g o ys h
        by_cases ha : 1 ≤ (28 - (a : Int))
        · have ih := ih ha
          have ha2 : a + 1 ≤ 28 := by omega
          have ha3 : ¬ (28 - (a : Int)) < 1 := by omega
          rcases h78 with rfl | rfl
          · have hbn : b = [] := List.length_eq_zero_iff.1 (by omega)
            subst hbn
            unfold restO numB longB
            simp [strm_nil, ih, ha2, ha3, and_assoc]
          · unfold restO numB longB
            by_cases hb2 : 16777216 < b.length
            · have hb3 : ¬ b.length ≤ 16777216 := by omega
              simp [hb2, hb3]
            · have hb3 : b.length ≤ 16777216 := by omega
              simp [strm_nil, ih, ha2, ha3, hb2, hb3, and_assoc]
        · have ha2 : ¬ a + 1 ≤ 28 := by omega
          have ha3 : (28 - (a : Int)) < 1 := by omega
          rcases h78 with rfl | rfl
          all_goals
            unfold restO
            simp [ha2, ha3]
      · rw [if_neg h78] at h
        subst h
        have hdn : d = .nil := by cases d with | nil => rfl | cons s x xs => rw [Ens.len] at hd; omega
        subst hdn
        have hlay : ¬ (k = 6 ∨ k = 7 ∨ k = 8) := by omega
        rw [if_neg hlay]
        have hT : (¬ strmL .nil ∧ ¬ wrongE .nil ∧ riseP .nil) := ⟨strm_nil, wrong_nil, rise_nil⟩
        have hys : ∀ p ∈ ([] : List Part), PartOk p := fun p hp => by cases hp
        have key : restO k n b .nil .nil (28 - (a : Int)) = true ↔ (((0 ≤ k ∧ k ≤ 9) ∧ (n = 0 ∨ k = 1 ∨ k = 2 ∨ k = 3 ∨ k = 9)) ∧ (numB k n = true ∧ longB k b = true)) := by
          unfold restO numB longB inZ
          by_cases hk : k = 0 ∨ k = 1 ∨ k = 2 ∨ k = 3 ∨ k = 4 ∨ k = 5 ∨ k = 9
          · rcases hk with rfl | rfl | rfl | rfl | rfl | rfl | rfl
            all_goals simp
            all_goals omega
          · have hk2 : ¬ (0 ≤ k ∧ k ≤ 9) := by omega
            have q0 : ¬ k = 0 := by omega
            have q1 : ¬ k = 1 := by omega
            have q2 : ¬ k = 2 := by omega
            have q3 : ¬ k = 3 := by omega
            have q4 : ¬ k = 4 := by omega
            have q5 : ¬ k = 5 := by omega
            have q9 : ¬ k = 9 := by omega
            simp [hk2, q0, q1, q2, q3, q4, q5, q9, h6, h78]
        rw [key]
        constructor
        · rintro ⟨e1, e2⟩
          exact ⟨⟨by omega, e1, e2, hT⟩, hys⟩
        · rintro ⟨⟨_, e1, e2, _⟩, _⟩
          exact ⟨e1, e2⟩
theorem WkL.may {w : World} {S : Nat → Prop} : ∀ (l : Obs) (a g o : Nat) (ys : List Part), WkL w S (a + 1) l g o ys → 1 ≤ (28 - (a : Int)) → (mayL l (28 - (a : Int)) = true ↔ ¬ strmL l ∧ ∀ p ∈ ys, PartOk p)
  | .nil, a, g, o, ys, h, hd => by
    unfold WkL at h
    subst h
    have h1 : ¬ strmL .nil := by rintro ⟨i, x, hx, _⟩; simp [Obs.get?] at hx
    unfold mayL
    simp [h1]
  | .cons x xs, a, g, o, ys, h, hd => by
    unfold WkL at h
    obtain ⟨c0, c1, c2, c3, c4, y1, y2, _, hx, _, h1, h2, rfl⟩ := h
    have ih1 := WkO.may x (a + 1) c3 c4 y1 h1 (by omega)
    have ih2 := WkL.may xs a g (o + 5) y2 h2 hd
    have e : (28 : Int) - ((a + 1 : Nat) : Int) = 28 - (a : Int) - 1 := by omega
    rw [e] at ih1
    unfold mayL
    rw [strm_cons]
    by_cases hk : x.kind = 8
    · rw [if_pos (.inl hk)]
      simp [hk]
    · rw [if_neg (by omega)]
      by_cases hm : mayO x (28 - (a : Int) - 1) = true
      · rw [if_pos hm, ih2]
        have h3 := ih1.1 hm
        simp only [List.mem_cons, forall_eq_or_imp, List.mem_append, hk, false_or]
        constructor
        · rintro ⟨q1, q2⟩
          exact ⟨q1, h3.1, fun p hp => hp.elim (h3.2 p) (q2 p)⟩
        · rintro ⟨q1, _, q2⟩
          exact ⟨q1, fun p hp => q2 p (.inr hp)⟩
      · rw [if_neg hm]
        simp only [List.mem_cons, forall_eq_or_imp, List.mem_append, Bool.false_eq_true, false_iff]
        rintro ⟨_, q1, q2⟩
        exact hm (ih1.2 ⟨q1, fun p hp => q2 p (.inl hp)⟩)
theorem WkE.may {w : World} {S : Nat → Prop} : ∀ (d : Ens) (pv : Option ByteArray) (a g o : Nat) (ys : List Part), WkE w S (a + 1) d g o ys → 1 ≤ (28 - (a : Int)) → (mayE d pv (28 - (a : Int)) = true ↔ (∀ s x xs p, d = .cons s x xs → pv = some p → ltS p s = true) ∧ (¬ wrongE d ∧ riseP d) ∧ ∀ p ∈ ys, PartOk p)
  | .nil, pv, a, g, o, ys, h, hd => by
    unfold WkE at h
    subst h
    have h1 : ¬ wrongE .nil := by rintro ⟨i, s, x, hx, _⟩; simp [Ens.get?] at hx
    unfold mayE
    simp [h1, rise_nil]
  | .cons s x xs, pv, a, g, o, ys, h, hd => by
    unfold WkE at h
    obtain ⟨c0, c1, c2, c3, c4, y1, y2, _, hx, _, h1, h2, rfl⟩ := h
    have ih1 := WkO.may x (a + 1) c3 c4 y1 h1 (by omega)
    have ih2 := WkE.may xs (some s) a g (o + 6) y2 h2 hd
    have e : (28 : Int) - ((a + 1 : Nat) : Int) = 28 - (a : Int) - 1 := by omega
    rw [e] at ih1
    unfold mayE
    rw [wrong_cons]
    have hr : riseP (.cons s x xs) ↔ (∀ t y ys, xs = .cons t y ys → ltS s t = true) ∧ riseP xs := by
      cases xs with
      | nil => simp [rise_one, rise_nil]
      | cons t y ys =>
        rw [rise_cons]
        constructor
        · rintro ⟨q1, q2⟩
          refine ⟨fun t' y' ys' e => ?_, q2⟩
          injection e with e1 _ _
          rw [← e1]; exact q1
        · rintro ⟨q1, q2⟩
          exact ⟨q1 t y ys rfl, q2⟩
    have hp : (∀ p, pv = some p → leS s p = false) ↔ ∀ p, pv = some p → ltS p s = true := by
      constructor
      · intro h p hp; exact leS_no (by rw [h p hp]; simp)
      · intro h p hp
        have := h p hp
        rw [Bool.eq_false_iff]
        intro h2
        rcases leS_lt.1 h2 with h3 | h3
        · have := ltS_trans this h3
          rw [ltS_irrefl] at this; cases this
        · rw [h3, ltS_irrefl] at this; cases this
    simp only [List.mem_cons, forall_eq_or_imp, List.mem_append, hp, hr, not_or, wrong_no]
    split
    · rename_i hc
      obtain ⟨n1, n2, n3, n4, n5⟩ := hc
      rw [ih2]
      have h3 := ih1.1 n5
      have hk := may_kind n5
      constructor
      · rintro ⟨q1, ⟨q2, q3⟩, q4⟩
        refine ⟨fun s' x' xs' p e hpv => ?_, ⟨⟨⟨n1, by omega, n3⟩, q2⟩, fun t y ys' e => q1 t y ys' s e rfl, q3⟩, h3.1, fun p hp => hp.elim (h3.2 p) (q4 p)⟩
        injection e with e1 _ _
        rw [← e1]; exact n2 p hpv
      · rintro ⟨_, ⟨⟨_, q2⟩, q5, q3⟩, _, q4⟩
        refine ⟨fun t y ys' p e hpv => ?_, ⟨q2, q3⟩, fun p hp => q4 p (.inr hp)⟩
        injection hpv with hpv
        rw [← hpv]; exact q5 t y ys' e
    · rename_i hc
      simp only [Bool.false_eq_true, false_iff]
      rintro ⟨q1, ⟨⟨⟨n1, n3, n4⟩, _⟩, _, _⟩, q5, q6⟩
      exact hc ⟨n1, fun p hpv => q1 s x xs p rfl hpv, n4, by omega, ih1.2 ⟨q5, fun p hp => q6 p (.inl hp)⟩⟩
end
end
end Go.Proofs.YtliieeagbpmcgaaDoor
