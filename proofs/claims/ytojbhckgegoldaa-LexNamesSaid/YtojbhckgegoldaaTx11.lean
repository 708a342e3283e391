/- Chapter 11, pure: a string's parts, and what they stand for. -/
import Derived.Test.YtojbhckgegoldaaLv11
import Derived.Test.YtojbhckgegoldaaSz11
namespace Go.Proofs.Ytojbhckgegoldaa
open Go.RowKit
set_option linter.unusedVariables false
set_option maxRecDepth 100000

theorem peek_shift (zs : List Int) (q j : Nat) : peekZ zs ((q + j : Nat) : Int) = peekZ (zs.drop q) (j : Int) := by
  rcases Nat.lt_or_ge (q + j) zs.length with h | h
  · rw [peekZ_in zs (q + j) h, peekZ_in (zs.drop q) j (by rw [List.length_drop]; omega)]
    simp [List.getD]
  · rw [peekZ_nat zs (q + j) h, peekZ_nat (zs.drop q) j (by rw [List.length_drop]; omega)]
theorem esc_shift (zs : List Int) (q j : Nat) : escZ zs (q + j) = ((escZ (zs.drop q) j).1, q + (escZ (zs.drop q) j).2) := by
  unfold escZ
  rw [show q + j + 1 = q + (j + 1) by omega, show q + j + 2 = q + (j + 2) by omega, show q + j + 3 = q + (j + 3) by omega, peek_shift zs q j, peek_shift zs q (j + 1), peek_shift zs q (j + 2)]
  obtain ⟨x, hx⟩ : ∃ x, peekZ (zs.drop q) (j : Int) = x := ⟨_, rfl⟩
  obtain ⟨y, hy⟩ : ∃ y, peekZ (zs.drop q) ((j + 1 : Nat) : Int) = y := ⟨_, rfl⟩
  obtain ⟨z, hz⟩ : ∃ z, peekZ (zs.drop q) ((j + 2 : Nat) : Int) = z := ⟨_, rfl⟩
  rw [hx, hy, hz]
  clear hx hy hz
  by_cases c1 : x = 110
  · rw [if_pos c1, if_pos c1]
  rw [if_neg c1, if_neg c1]
  by_cases c2 : x = 114
  · rw [if_pos c2, if_pos c2]
  rw [if_neg c2, if_neg c2]
  by_cases c3 : x = 116
  · rw [if_pos c3, if_pos c3]
  rw [if_neg c3, if_neg c3]
  by_cases c4 : x = 98
  · rw [if_pos c4, if_pos c4]
  rw [if_neg c4, if_neg c4]
  by_cases c5 : x = 102
  · rw [if_pos c5, if_pos c5]
  rw [if_neg c5, if_neg c5]
  by_cases c6 : x = 13
  · rw [if_pos c6, if_pos c6]
    by_cases d : y = 10
    · rw [if_pos d, if_pos d]
    · rw [if_neg d, if_neg d]
  rw [if_neg c6, if_neg c6]
  by_cases c7 : x = 10
  · rw [if_pos c7, if_pos c7]
  rw [if_neg c7, if_neg c7]
  by_cases c8 : octB x = true
  · rw [if_pos c8, if_pos c8]
    by_cases d : octB y = true
    · rw [if_pos d, if_pos d]
      by_cases d2 : octB z = true
      · rw [if_pos d2, if_pos d2]
      · rw [if_neg d2, if_neg d2]
    · rw [if_neg d, if_neg d]
  · rw [if_neg c8, if_neg c8]
theorem pc_shift (zs : List Int) (q : Nat) (hq : q < zs.length) : pcZ zs q = ((pcZ (zs.drop q) 0).1, q + (pcZ (zs.drop q) 0).2.1, (pcZ (zs.drop q) 0).2.2) := by
  have h0 := peek_shift zs q 0
  have h1 := peek_shift zs q 1
  rw [Nat.add_zero] at h0
  have he := esc_shift zs q 1
  have hl := List.length_drop (i := q) (l := zs)
  unfold pcZ
  rw [h0, h1, he]
  simp only [Nat.zero_add]
  obtain ⟨x, hx⟩ : ∃ x, peekZ (zs.drop q) ((0 : Nat) : Int) = x := ⟨_, rfl⟩
  obtain ⟨y, hy⟩ : ∃ y, peekZ (zs.drop q) ((1 : Nat) : Int) = y := ⟨_, rfl⟩
  rw [hx, hy]
  by_cases c1 : x = 92
  · rw [if_pos c1, if_pos c1]
    by_cases d : zs.length ≤ q + 1
    · rw [if_pos d, if_pos (by omega)]
    · rw [if_neg d, if_neg (by omega)]
  rw [if_neg c1, if_neg c1]
  by_cases c2 : x = 13
  · rw [if_pos c2, if_pos c2]
    by_cases d : y = 10
    · rw [if_pos d, if_pos d]
    · rw [if_neg d, if_neg d]
  · rw [if_neg c2, if_neg c2]
theorem peek_0 (a : Int) (l : List Int) : peekZ (a :: l) ((0 : Nat) : Int) = a := by rw [peekZ_in _ 0 (by simp)]; rfl
theorem peek_1 (a b : Int) (l : List Int) : peekZ (a :: b :: l) ((1 : Nat) : Int) = b := by rw [peekZ_in _ 1 (by simp)]; rfl
theorem peek_2 (a b c : Int) (l : List Int) : peekZ (a :: b :: c :: l) ((2 : Nat) : Int) = c := by rw [peekZ_in _ 2 (by simp)]; rfl
theorem peek_3 (a b c d : Int) (l : List Int) : peekZ (a :: b :: c :: d :: l) ((3 : Nat) : Int) = d := by rw [peekZ_in _ 3 (by simp)]; rfl
/-- A text is read on from (q, k, o) to (q', k', o'). -/
def Adv (zs : List Int) (q : Nat) (k : Int) (o : List Int) (q' : Nat) (k' : Int) (o' : List Int) : Prop := q ≤ q' ∧ ∃ m, m + q ≤ q' ∧ ∀ f, textF zs (f + m) q k o = textF zs f q' k' o'
theorem Adv.refl (zs : List Int) (q : Nat) (k : Int) (o : List Int) : Adv zs q k o q k o := ⟨Nat.le_refl _, 0, by omega, fun f => rfl⟩
theorem Adv.trans {zs : List Int} {q q' q'' : Nat} {k k' k'' : Int} {o o' o'' : List Int} (h : Adv zs q k o q' k' o') (g : Adv zs q' k' o' q'' k'' o'') : Adv zs q k o q'' k'' o'' := by
  obtain ⟨h1, m, hm, h2⟩ := h
  obtain ⟨g1, n, hn, g2⟩ := g
  exact ⟨by omega, m + n, by omega, fun f => by rw [show f + (m + n) = (f + n) + m by omega, h2, g2]⟩
/-- One part that is a byte. -/
theorem Adv.one {zs l : List Int} {q m : Nat} {k k2 cc d : Int} {o : List Int} (hl : zs.drop q = l) (hp : pcZ l 0 = (cc, m, d)) (hk : k + d = k2) (h0 : k2 ≠ 0) (hc : 0 ≤ cc) (hm : 1 ≤ m) (hne : l ≠ []) (ho : o.length < 32767) : Adv zs q k o (q + m) k2 (o ++ [cc]) := by
  subst hl
  have hq : q < zs.length := by
    rcases Nat.lt_or_ge q zs.length with h | h
    · exact h
    · exact absurd (List.drop_of_length_le h) hne
  refine ⟨by omega, 1, by omega, fun f => ?_⟩
  rw [textF, if_neg (by omega), pc_shift zs q hq, hp]
  dsimp only
  rw [hk, if_neg h0, if_neg (by omega), if_neg (by omega)]
/-- One part that is none. -/
theorem Adv.zero {zs l : List Int} {q m : Nat} {k k2 cc d : Int} {o : List Int} (hl : zs.drop q = l) (hp : pcZ l 0 = (cc, m, d)) (hk : k + d = k2) (h0 : k2 ≠ 0) (hc : cc < 0) (hm : 1 ≤ m) (hne : l ≠ []) : Adv zs q k o (q + m) k2 o := by
  subst hl
  have hq : q < zs.length := by
    rcases Nat.lt_or_ge q zs.length with h | h
    · exact h
    · exact absurd (List.drop_of_length_le h) hne
  refine ⟨by omega, 1, by omega, fun f => ?_⟩
  rw [textF, if_neg (by omega), pc_shift zs q hq, hp]
  dsimp only
  rw [hk, if_neg h0, if_pos hc]
theorem drop_on {zs : List Int} {q : Nat} {l r : List Int} (h : zs.drop q = l ++ r) : zs.drop (q + l.length) = r := by
  rw [← List.drop_drop, h, List.drop_left]
def pcS : Nat → List Int
  | 0 => [92, 110]
  | 1 => [92, 40]
  | 2 => [92, 41]
  | 3 => [92, 92]
  | 4 => [92, 13, 10]
  | 5 => [13, 10]
  | 6 => [92, 49, 48, 49]
  | 7 => [92, 48, 53, 51, 56]
  | 8 => [40, 97, 40, 98, 41, 41]
  | 9 => [92, 113]
  | 10 => [92, 53, 48, 48]
  | 11 => [92, 116, 92, 98, 92, 102, 92, 114]
  | 12 => [92, 55, 120]
  | _ => [97, 98, 99, 37, 60, 62]
def pcW : Nat → List Int
  | 0 => [10]
  | 1 => [40]
  | 2 => [41]
  | 3 => [92]
  | 4 => []
  | 5 => [10]
  | 6 => [65]
  | 7 => [43, 56]
  | 8 => [40, 97, 40, 98, 41, 41]
  | 9 => [113]
  | 10 => [64]
  | 11 => [9, 8, 12, 13]
  | 12 => [7, 120]
  | _ => [97, 98, 99, 37, 60, 62]
theorem pc_0 {zs : List Int} {q : Nat} {r o : List Int} (h : zs.drop q = [92, 110] ++ r) (ho : o.length < 32700) : Adv zs q 1 o (q + 2) 1 (o ++ [10]) := by
  have h0 : zs.drop q = [92, 110] ++ r := h
  have e0 : pcZ ([92, 110] ++ r) 0 = (10, 2, 0) := by
    simp only [pcZ, escZ, octB, Nat.zero_add, Nat.reduceAdd, peek_0, peek_1, List.cons_append, List.nil_append, List.length_cons]
    first | rfl | simp | (simp; omega)
  have a0 := Adv.one (k := 1) (k2 := 1) (o := o) h0 e0 (by decide) (by decide) (by decide) (by decide) (by simp) (by first | omega | (simp; omega))
  simpa using a0
theorem pc_1 {zs : List Int} {q : Nat} {r o : List Int} (h : zs.drop q = [92, 40] ++ r) (ho : o.length < 32700) : Adv zs q 1 o (q + 2) 1 (o ++ [40]) := by
  have h0 : zs.drop q = [92, 40] ++ r := h
  have e0 : pcZ ([92, 40] ++ r) 0 = (40, 2, 0) := by
    simp only [pcZ, escZ, octB, Nat.zero_add, Nat.reduceAdd, peek_0, peek_1, List.cons_append, List.nil_append, List.length_cons]
    first | rfl | simp | (simp; omega)
  have a0 := Adv.one (k := 1) (k2 := 1) (o := o) h0 e0 (by decide) (by decide) (by decide) (by decide) (by simp) (by first | omega | (simp; omega))
  simpa using a0
theorem pc_2 {zs : List Int} {q : Nat} {r o : List Int} (h : zs.drop q = [92, 41] ++ r) (ho : o.length < 32700) : Adv zs q 1 o (q + 2) 1 (o ++ [41]) := by
  have h0 : zs.drop q = [92, 41] ++ r := h
  have e0 : pcZ ([92, 41] ++ r) 0 = (41, 2, 0) := by
    simp only [pcZ, escZ, octB, Nat.zero_add, Nat.reduceAdd, peek_0, peek_1, List.cons_append, List.nil_append, List.length_cons]
    first | rfl | simp | (simp; omega)
  have a0 := Adv.one (k := 1) (k2 := 1) (o := o) h0 e0 (by decide) (by decide) (by decide) (by decide) (by simp) (by first | omega | (simp; omega))
  simpa using a0
theorem pc_3 {zs : List Int} {q : Nat} {r o : List Int} (h : zs.drop q = [92, 92] ++ r) (ho : o.length < 32700) : Adv zs q 1 o (q + 2) 1 (o ++ [92]) := by
  have h0 : zs.drop q = [92, 92] ++ r := h
  have e0 : pcZ ([92, 92] ++ r) 0 = (92, 2, 0) := by
    simp only [pcZ, escZ, octB, Nat.zero_add, Nat.reduceAdd, peek_0, peek_1, List.cons_append, List.nil_append, List.length_cons]
    first | rfl | simp | (simp; omega)
  have a0 := Adv.one (k := 1) (k2 := 1) (o := o) h0 e0 (by decide) (by decide) (by decide) (by decide) (by simp) (by first | omega | (simp; omega))
  simpa using a0
theorem pc_4 {zs : List Int} {q : Nat} {r o : List Int} (h : zs.drop q = [92, 13, 10] ++ r) (ho : o.length < 32700) : Adv zs q 1 o (q + 3) 1 (o ++ []) := by
  have h0 : zs.drop q = [92, 13, 10] ++ r := h
  have e0 : pcZ ([92, 13, 10] ++ r) 0 = (-1, 3, 0) := by
    simp only [pcZ, escZ, octB, Nat.zero_add, Nat.reduceAdd, peek_0, peek_1, peek_2, List.cons_append, List.nil_append, List.length_cons]
    first | rfl | simp | (simp; omega)
  have a0 := Adv.zero (k := 1) (k2 := 1) (o := o) h0 e0 (by decide) (by decide) (by decide) (by decide) (by simp)
  simpa using a0
theorem pc_5 {zs : List Int} {q : Nat} {r o : List Int} (h : zs.drop q = [13, 10] ++ r) (ho : o.length < 32700) : Adv zs q 1 o (q + 2) 1 (o ++ [10]) := by
  have h0 : zs.drop q = [13, 10] ++ r := h
  have e0 : pcZ ([13, 10] ++ r) 0 = (10, 2, 0) := by
    simp only [pcZ, escZ, octB, Nat.zero_add, Nat.reduceAdd, peek_0, peek_1, List.cons_append, List.nil_append, List.length_cons]
    first | rfl | simp | (simp; omega)
  have a0 := Adv.one (k := 1) (k2 := 1) (o := o) h0 e0 (by decide) (by decide) (by decide) (by decide) (by simp) (by first | omega | (simp; omega))
  simpa using a0
theorem pc_6 {zs : List Int} {q : Nat} {r o : List Int} (h : zs.drop q = [92, 49, 48, 49] ++ r) (ho : o.length < 32700) : Adv zs q 1 o (q + 4) 1 (o ++ [65]) := by
  have h0 : zs.drop q = [92, 49, 48, 49] ++ r := h
  have e0 : pcZ ([92, 49, 48, 49] ++ r) 0 = (65, 4, 0) := by
    simp only [pcZ, escZ, octB, Nat.zero_add, Nat.reduceAdd, peek_0, peek_1, peek_2, peek_3, List.cons_append, List.nil_append, List.length_cons]
    first | rfl | simp | (simp; omega)
  have a0 := Adv.one (k := 1) (k2 := 1) (o := o) h0 e0 (by decide) (by decide) (by decide) (by decide) (by simp) (by first | omega | (simp; omega))
  simpa using a0
theorem pc_7 {zs : List Int} {q : Nat} {r o : List Int} (h : zs.drop q = [92, 48, 53, 51, 56] ++ r) (ho : o.length < 32700) : Adv zs q 1 o (q + 5) 1 (o ++ [43, 56]) := by
  have h0 : zs.drop q = [92, 48, 53, 51, 56] ++ r := h
  have e0 : pcZ ([92, 48, 53, 51, 56] ++ r) 0 = (43, 4, 0) := by
    simp only [pcZ, escZ, octB, Nat.zero_add, Nat.reduceAdd, peek_0, peek_1, peek_2, peek_3, List.cons_append, List.nil_append, List.length_cons]
    first | rfl | simp | (simp; omega)
  have a0 := Adv.one (k := 1) (k2 := 1) (o := o) h0 e0 (by decide) (by decide) (by decide) (by decide) (by simp) (by first | omega | (simp; omega))
  have h1 : zs.drop (q + 4) = [56] ++ r := drop_on (l := [92, 48, 53, 51]) h
  have e1 : pcZ ([56] ++ r) 0 = (56, 1, 0) := by
    simp only [pcZ, escZ, octB, Nat.zero_add, Nat.reduceAdd, peek_0, List.cons_append, List.nil_append, List.length_cons]
    first | rfl | simp | (simp; omega)
  have a1 := Adv.one (k := 1) (k2 := 1) (o := (o ++ [43])) h1 e1 (by decide) (by decide) (by decide) (by decide) (by simp) (by first | omega | (simp; omega))
  simp only [Nat.add_assoc, Nat.reduceAdd, List.append_assoc, List.cons_append, List.nil_append] at a0 a1
  exact (a0.trans a1)
theorem pc_8 {zs : List Int} {q : Nat} {r o : List Int} (h : zs.drop q = [40, 97, 40, 98, 41, 41] ++ r) (ho : o.length < 32700) : Adv zs q 1 o (q + 6) 1 (o ++ [40, 97, 40, 98, 41, 41]) := by
  have h0 : zs.drop q = [40, 97, 40, 98, 41, 41] ++ r := h
  have e0 : pcZ ([40, 97, 40, 98, 41, 41] ++ r) 0 = (40, 1, 1) := by
    simp only [pcZ, escZ, octB, Nat.zero_add, Nat.reduceAdd, peek_0, peek_1, peek_2, peek_3, List.cons_append, List.nil_append, List.length_cons]
    first | rfl | simp | (simp; omega)
  have a0 := Adv.one (k := 1) (k2 := 2) (o := o) h0 e0 (by decide) (by decide) (by decide) (by decide) (by simp) (by first | omega | (simp; omega))
  have h1 : zs.drop (q + 1) = [97, 40, 98, 41, 41] ++ r := drop_on (l := [40]) h
  have e1 : pcZ ([97, 40, 98, 41, 41] ++ r) 0 = (97, 1, 0) := by
    simp only [pcZ, escZ, octB, Nat.zero_add, Nat.reduceAdd, peek_0, peek_1, peek_2, peek_3, List.cons_append, List.nil_append, List.length_cons]
    first | rfl | simp | (simp; omega)
  have a1 := Adv.one (k := 2) (k2 := 2) (o := (o ++ [40])) h1 e1 (by decide) (by decide) (by decide) (by decide) (by simp) (by first | omega | (simp; omega))
  have h2 : zs.drop (q + 2) = [40, 98, 41, 41] ++ r := drop_on (l := [40, 97]) h
  have e2 : pcZ ([40, 98, 41, 41] ++ r) 0 = (40, 1, 1) := by
    simp only [pcZ, escZ, octB, Nat.zero_add, Nat.reduceAdd, peek_0, peek_1, peek_2, peek_3, List.cons_append, List.nil_append, List.length_cons]
    first | rfl | simp | (simp; omega)
  have a2 := Adv.one (k := 2) (k2 := 3) (o := (o ++ [40, 97])) h2 e2 (by decide) (by decide) (by decide) (by decide) (by simp) (by first | omega | (simp; omega))
  have h3 : zs.drop (q + 3) = [98, 41, 41] ++ r := drop_on (l := [40, 97, 40]) h
  have e3 : pcZ ([98, 41, 41] ++ r) 0 = (98, 1, 0) := by
    simp only [pcZ, escZ, octB, Nat.zero_add, Nat.reduceAdd, peek_0, peek_1, peek_2, List.cons_append, List.nil_append, List.length_cons]
    first | rfl | simp | (simp; omega)
  have a3 := Adv.one (k := 3) (k2 := 3) (o := (o ++ [40, 97, 40])) h3 e3 (by decide) (by decide) (by decide) (by decide) (by simp) (by first | omega | (simp; omega))
  have h4 : zs.drop (q + 4) = [41, 41] ++ r := drop_on (l := [40, 97, 40, 98]) h
  have e4 : pcZ ([41, 41] ++ r) 0 = (41, 1, -1) := by
    simp only [pcZ, escZ, octB, Nat.zero_add, Nat.reduceAdd, peek_0, peek_1, List.cons_append, List.nil_append, List.length_cons]
    first | rfl | simp | (simp; omega)
  have a4 := Adv.one (k := 3) (k2 := 2) (o := (o ++ [40, 97, 40, 98])) h4 e4 (by decide) (by decide) (by decide) (by decide) (by simp) (by first | omega | (simp; omega))
  have h5 : zs.drop (q + 5) = [41] ++ r := drop_on (l := [40, 97, 40, 98, 41]) h
  have e5 : pcZ ([41] ++ r) 0 = (41, 1, -1) := by
    simp only [pcZ, escZ, octB, Nat.zero_add, Nat.reduceAdd, peek_0, List.cons_append, List.nil_append, List.length_cons]
    first | rfl | simp | (simp; omega)
  have a5 := Adv.one (k := 2) (k2 := 1) (o := (o ++ [40, 97, 40, 98, 41])) h5 e5 (by decide) (by decide) (by decide) (by decide) (by simp) (by first | omega | (simp; omega))
  simp only [Nat.add_assoc, Nat.reduceAdd, List.append_assoc, List.cons_append, List.nil_append] at a0 a1 a2 a3 a4 a5
  exact (((((a0.trans a1).trans a2).trans a3).trans a4).trans a5)
theorem pc_9 {zs : List Int} {q : Nat} {r o : List Int} (h : zs.drop q = [92, 113] ++ r) (ho : o.length < 32700) : Adv zs q 1 o (q + 2) 1 (o ++ [113]) := by
  have h0 : zs.drop q = [92, 113] ++ r := h
  have e0 : pcZ ([92, 113] ++ r) 0 = (113, 2, 0) := by
    simp only [pcZ, escZ, octB, Nat.zero_add, Nat.reduceAdd, peek_0, peek_1, List.cons_append, List.nil_append, List.length_cons]
    first | rfl | simp | (simp; omega)
  have a0 := Adv.one (k := 1) (k2 := 1) (o := o) h0 e0 (by decide) (by decide) (by decide) (by decide) (by simp) (by first | omega | (simp; omega))
  simpa using a0
theorem pc_10 {zs : List Int} {q : Nat} {r o : List Int} (h : zs.drop q = [92, 53, 48, 48] ++ r) (ho : o.length < 32700) : Adv zs q 1 o (q + 4) 1 (o ++ [64]) := by
  have h0 : zs.drop q = [92, 53, 48, 48] ++ r := h
  have e0 : pcZ ([92, 53, 48, 48] ++ r) 0 = (64, 4, 0) := by
    simp only [pcZ, escZ, octB, Nat.zero_add, Nat.reduceAdd, peek_0, peek_1, peek_2, peek_3, List.cons_append, List.nil_append, List.length_cons]
    first | rfl | simp | (simp; omega)
  have a0 := Adv.one (k := 1) (k2 := 1) (o := o) h0 e0 (by decide) (by decide) (by decide) (by decide) (by simp) (by first | omega | (simp; omega))
  simpa using a0
theorem pc_11 {zs : List Int} {q : Nat} {r o : List Int} (h : zs.drop q = [92, 116, 92, 98, 92, 102, 92, 114] ++ r) (ho : o.length < 32700) : Adv zs q 1 o (q + 8) 1 (o ++ [9, 8, 12, 13]) := by
  have h0 : zs.drop q = [92, 116, 92, 98, 92, 102, 92, 114] ++ r := h
  have e0 : pcZ ([92, 116, 92, 98, 92, 102, 92, 114] ++ r) 0 = (9, 2, 0) := by
    simp only [pcZ, escZ, octB, Nat.zero_add, Nat.reduceAdd, peek_0, peek_1, peek_2, peek_3, List.cons_append, List.nil_append, List.length_cons]
    first | rfl | simp | (simp; omega)
  have a0 := Adv.one (k := 1) (k2 := 1) (o := o) h0 e0 (by decide) (by decide) (by decide) (by decide) (by simp) (by first | omega | (simp; omega))
  have h1 : zs.drop (q + 2) = [92, 98, 92, 102, 92, 114] ++ r := drop_on (l := [92, 116]) h
  have e1 : pcZ ([92, 98, 92, 102, 92, 114] ++ r) 0 = (8, 2, 0) := by
    simp only [pcZ, escZ, octB, Nat.zero_add, Nat.reduceAdd, peek_0, peek_1, peek_2, peek_3, List.cons_append, List.nil_append, List.length_cons]
    first | rfl | simp | (simp; omega)
  have a1 := Adv.one (k := 1) (k2 := 1) (o := (o ++ [9])) h1 e1 (by decide) (by decide) (by decide) (by decide) (by simp) (by first | omega | (simp; omega))
  have h2 : zs.drop (q + 4) = [92, 102, 92, 114] ++ r := drop_on (l := [92, 116, 92, 98]) h
  have e2 : pcZ ([92, 102, 92, 114] ++ r) 0 = (12, 2, 0) := by
    simp only [pcZ, escZ, octB, Nat.zero_add, Nat.reduceAdd, peek_0, peek_1, peek_2, peek_3, List.cons_append, List.nil_append, List.length_cons]
    first | rfl | simp | (simp; omega)
  have a2 := Adv.one (k := 1) (k2 := 1) (o := (o ++ [9, 8])) h2 e2 (by decide) (by decide) (by decide) (by decide) (by simp) (by first | omega | (simp; omega))
  have h3 : zs.drop (q + 6) = [92, 114] ++ r := drop_on (l := [92, 116, 92, 98, 92, 102]) h
  have e3 : pcZ ([92, 114] ++ r) 0 = (13, 2, 0) := by
    simp only [pcZ, escZ, octB, Nat.zero_add, Nat.reduceAdd, peek_0, peek_1, List.cons_append, List.nil_append, List.length_cons]
    first | rfl | simp | (simp; omega)
  have a3 := Adv.one (k := 1) (k2 := 1) (o := (o ++ [9, 8, 12])) h3 e3 (by decide) (by decide) (by decide) (by decide) (by simp) (by first | omega | (simp; omega))
  simp only [Nat.add_assoc, Nat.reduceAdd, List.append_assoc, List.cons_append, List.nil_append] at a0 a1 a2 a3
  exact (((a0.trans a1).trans a2).trans a3)
theorem pc_12 {zs : List Int} {q : Nat} {r o : List Int} (h : zs.drop q = [92, 55, 120] ++ r) (ho : o.length < 32700) : Adv zs q 1 o (q + 3) 1 (o ++ [7, 120]) := by
  have h0 : zs.drop q = [92, 55, 120] ++ r := h
  have e0 : pcZ ([92, 55, 120] ++ r) 0 = (7, 2, 0) := by
    simp only [pcZ, escZ, octB, Nat.zero_add, Nat.reduceAdd, peek_0, peek_1, peek_2, List.cons_append, List.nil_append, List.length_cons]
    first | rfl | simp | (simp; omega)
  have a0 := Adv.one (k := 1) (k2 := 1) (o := o) h0 e0 (by decide) (by decide) (by decide) (by decide) (by simp) (by first | omega | (simp; omega))
  have h1 : zs.drop (q + 2) = [120] ++ r := drop_on (l := [92, 55]) h
  have e1 : pcZ ([120] ++ r) 0 = (120, 1, 0) := by
    simp only [pcZ, escZ, octB, Nat.zero_add, Nat.reduceAdd, peek_0, List.cons_append, List.nil_append, List.length_cons]
    first | rfl | simp | (simp; omega)
  have a1 := Adv.one (k := 1) (k2 := 1) (o := (o ++ [7])) h1 e1 (by decide) (by decide) (by decide) (by decide) (by simp) (by first | omega | (simp; omega))
  simp only [Nat.add_assoc, Nat.reduceAdd, List.append_assoc, List.cons_append, List.nil_append] at a0 a1
  exact (a0.trans a1)
theorem pc_13 {zs : List Int} {q : Nat} {r o : List Int} (h : zs.drop q = [97, 98, 99, 37, 60, 62] ++ r) (ho : o.length < 32700) : Adv zs q 1 o (q + 6) 1 (o ++ [97, 98, 99, 37, 60, 62]) := by
  have h0 : zs.drop q = [97, 98, 99, 37, 60, 62] ++ r := h
  have e0 : pcZ ([97, 98, 99, 37, 60, 62] ++ r) 0 = (97, 1, 0) := by
    simp only [pcZ, escZ, octB, Nat.zero_add, Nat.reduceAdd, peek_0, peek_1, peek_2, peek_3, List.cons_append, List.nil_append, List.length_cons]
    first | rfl | simp | (simp; omega)
  have a0 := Adv.one (k := 1) (k2 := 1) (o := o) h0 e0 (by decide) (by decide) (by decide) (by decide) (by simp) (by first | omega | (simp; omega))
  have h1 : zs.drop (q + 1) = [98, 99, 37, 60, 62] ++ r := drop_on (l := [97]) h
  have e1 : pcZ ([98, 99, 37, 60, 62] ++ r) 0 = (98, 1, 0) := by
    simp only [pcZ, escZ, octB, Nat.zero_add, Nat.reduceAdd, peek_0, peek_1, peek_2, peek_3, List.cons_append, List.nil_append, List.length_cons]
    first | rfl | simp | (simp; omega)
  have a1 := Adv.one (k := 1) (k2 := 1) (o := (o ++ [97])) h1 e1 (by decide) (by decide) (by decide) (by decide) (by simp) (by first | omega | (simp; omega))
  have h2 : zs.drop (q + 2) = [99, 37, 60, 62] ++ r := drop_on (l := [97, 98]) h
  have e2 : pcZ ([99, 37, 60, 62] ++ r) 0 = (99, 1, 0) := by
    simp only [pcZ, escZ, octB, Nat.zero_add, Nat.reduceAdd, peek_0, peek_1, peek_2, peek_3, List.cons_append, List.nil_append, List.length_cons]
    first | rfl | simp | (simp; omega)
  have a2 := Adv.one (k := 1) (k2 := 1) (o := (o ++ [97, 98])) h2 e2 (by decide) (by decide) (by decide) (by decide) (by simp) (by first | omega | (simp; omega))
  have h3 : zs.drop (q + 3) = [37, 60, 62] ++ r := drop_on (l := [97, 98, 99]) h
  have e3 : pcZ ([37, 60, 62] ++ r) 0 = (37, 1, 0) := by
    simp only [pcZ, escZ, octB, Nat.zero_add, Nat.reduceAdd, peek_0, peek_1, peek_2, List.cons_append, List.nil_append, List.length_cons]
    first | rfl | simp | (simp; omega)
  have a3 := Adv.one (k := 1) (k2 := 1) (o := (o ++ [97, 98, 99])) h3 e3 (by decide) (by decide) (by decide) (by decide) (by simp) (by first | omega | (simp; omega))
  have h4 : zs.drop (q + 4) = [60, 62] ++ r := drop_on (l := [97, 98, 99, 37]) h
  have e4 : pcZ ([60, 62] ++ r) 0 = (60, 1, 0) := by
    simp only [pcZ, escZ, octB, Nat.zero_add, Nat.reduceAdd, peek_0, peek_1, List.cons_append, List.nil_append, List.length_cons]
    first | rfl | simp | (simp; omega)
  have a4 := Adv.one (k := 1) (k2 := 1) (o := (o ++ [97, 98, 99, 37])) h4 e4 (by decide) (by decide) (by decide) (by decide) (by simp) (by first | omega | (simp; omega))
  have h5 : zs.drop (q + 5) = [62] ++ r := drop_on (l := [97, 98, 99, 37, 60]) h
  have e5 : pcZ ([62] ++ r) 0 = (62, 1, 0) := by
    simp only [pcZ, escZ, octB, Nat.zero_add, Nat.reduceAdd, peek_0, List.cons_append, List.nil_append, List.length_cons]
    first | rfl | simp | (simp; omega)
  have a5 := Adv.one (k := 1) (k2 := 1) (o := (o ++ [97, 98, 99, 37, 60])) h5 e5 (by decide) (by decide) (by decide) (by decide) (by simp) (by first | omega | (simp; omega))
  simp only [Nat.add_assoc, Nat.reduceAdd, List.append_assoc, List.cons_append, List.nil_append] at a0 a1 a2 a3 a4 a5
  exact (((((a0.trans a1).trans a2).trans a3).trans a4).trans a5)
theorem pc_any (i : Nat) {zs : List Int} {q : Nat} {r o : List Int} (h : zs.drop q = pcS i ++ r) (ho : o.length < 32700) : Adv zs q 1 o (q + (pcS i).length) 1 (o ++ pcW i) := by
  match i, h with
  | 0, h => exact pc_0 h ho
  | 1, h => exact pc_1 h ho
  | 2, h => exact pc_2 h ho
  | 3, h => exact pc_3 h ho
  | 4, h => exact pc_4 h ho
  | 5, h => exact pc_5 h ho
  | 6, h => exact pc_6 h ho
  | 7, h => exact pc_7 h ho
  | 8, h => exact pc_8 h ho
  | 9, h => exact pc_9 h ho
  | 10, h => exact pc_10 h ho
  | 11, h => exact pc_11 h ho
  | 12, h => exact pc_12 h ho
  | n + 13, h => exact pc_13 h ho
theorem pc_len (i : Nat) : (pcS i).length ≤ 8 ∧ (pcW i).length ≤ 6 := by
  unfold pcS pcW
  split <;> decide
theorem pc_rng (i : Nat) : (∀ z ∈ pcS i, 0 ≤ z ∧ z < 256) ∧ (∀ z ∈ pcW i, 0 ≤ z ∧ z < 256) := by
  unfold pcS pcW
  split <;> decide
/-- Of parts, all of them. -/
def catS : List Nat → List Int
  | [] => []
  | i :: l => pcS i ++ catS l
def catW : List Nat → List Int
  | [] => []
  | i :: l => pcW i ++ catW l
theorem catS_app (a b : List Nat) : catS (a ++ b) = catS a ++ catS b := by
  induction a with
  | nil => rfl
  | cons i a ih => simp [catS, ih]
theorem catW_app (a b : List Nat) : catW (a ++ b) = catW a ++ catW b := by
  induction a with
  | nil => rfl
  | cons i a ih => simp [catW, ih]
theorem cat_len (l : List Nat) : (catS l).length ≤ 8 * l.length ∧ (catW l).length ≤ 6 * l.length := by
  induction l with
  | nil => decide
  | cons i l ih =>
    have := pc_len i
    simp only [catS, catW, List.length_append, List.length_cons]
    omega
theorem cat_adv : ∀ (l : List Nat) {zs : List Int} {q : Nat} {r o : List Int}, zs.drop q = catS l ++ r → o.length + 6 * l.length < 32700 → Adv zs q 1 o (q + (catS l).length) 1 (o ++ catW l)
  | [], zs, q, r, o, h, ho => by
    have := Adv.refl zs q 1 o
    simpa [catS, catW] using this
  | i :: l, zs, q, r, o, h, ho => by
    rw [catS, List.append_assoc] at h
    have h1 := pc_any i (o := o) h (by rw [List.length_cons] at ho; omega)
    have hw := (pc_len i).2
    have h2 := cat_adv l (zs := zs) (q := q + (pcS i).length) (r := r) (o := o ++ pcW i) (drop_on h) (by rw [List.length_append]; rw [List.length_cons] at ho; omega)
    have h3 := h1.trans h2
    rw [catS, catW, List.length_append, ← Nat.add_assoc, ← List.append_assoc]
    exact h3
theorem text_whole (l : List Nat) (raw : List Int) (hl : l.length ≤ 60) : blkP (40 :: (catS l ++ 41 :: raw)) 0 = 0 ∧ tokT (40 :: (catS l ++ 41 :: raw)) 0 = ⟨0, 3, 0, catW l, (catS l).length + 2⟩ := by
  obtain ⟨zs, hz⟩ : ∃ zs, 40 :: (catS l ++ 41 :: raw) = zs := ⟨_, rfl⟩
  have hlen : zs.length = (catS l).length + raw.length + 2 := by rw [← hz]; simp; omega
  have h1 : zs.drop 1 = catS l ++ 41 :: raw := by rw [← hz]; rfl
  have hp : peekZ zs ((0 : Nat) : Int) = 40 := by rw [← hz]; exact peek_0 _ _
  have hb : blkP zs 0 = 0 := blkP_no zs 0 (by rw [hp]; rfl) (by rw [hp]; decide)
  obtain ⟨_, m, hm, ha⟩ := cat_adv l (o := []) h1 (by simp; omega)
  have h2 : zs.drop (1 + (catS l).length) = [] ++ 41 :: raw := drop_on h1
  have hq : 1 + (catS l).length < zs.length := by omega
  have he : textF zs (zs.length + 1) 1 1 [] = (0, catW l, (catS l).length + 2) := by
    obtain ⟨f, hf⟩ : ∃ f, zs.length + 1 = (f + 1) + m := ⟨zs.length - m, by omega⟩
    rw [hf, ha, textF, if_neg (by omega), pc_shift zs _ hq, h2]
    have e0 : pcZ (41 :: raw) 0 = (41, 1, -1) := by simp only [pcZ, peek_0]; rfl
    rw [List.nil_append, e0]
    show (if (1 : Int) + -1 = 0 then _ else _) = _
    rw [if_pos (by decide)]
    simp; omega
  have ht : tokZ zs 0 = ⟨0, 3, 0, catW l, (catS l).length + 2⟩ := by
    rw [tokZ, hp, if_neg (by decide), if_neg (by decide), if_neg (by decide), if_neg (by decide), if_neg (by decide), if_neg (fun e => absurd e.1 (by decide)), if_neg (fun e => absurd e.1 (by decide)), if_neg (by decide), if_pos rfl]
    rw [show 0 + 1 = 1 from rfl, he]
  rw [hz]
  refine ⟨hb, ?_⟩
  unfold tokT
  rw [hb, ht, if_pos rfl]
theorem text_cut (l : List Nat) (hl : l.length ≤ 60) : blkP (40 :: catS l) 0 = 0 ∧ tokT (40 :: catS l) 0 = ⟨2, 0, 0, [], 0⟩ := by
  obtain ⟨zs, hz⟩ : ∃ zs, 40 :: catS l = zs := ⟨_, rfl⟩
  have hlen : zs.length = (catS l).length + 1 := by rw [← hz]; simp
  have h1 : zs.drop 1 = catS l ++ [] := by rw [← hz, List.append_nil]; rfl
  have hp : peekZ zs ((0 : Nat) : Int) = 40 := by rw [← hz]; exact peek_0 _ _
  have hb : blkP zs 0 = 0 := blkP_no zs 0 (by rw [hp]; rfl) (by rw [hp]; decide)
  obtain ⟨_, m, hm, ha⟩ := cat_adv l (o := []) h1 (by simp; omega)
  have he : (textF zs (zs.length + 1) 1 1 []).1 = 2 := by
    obtain ⟨f, hf⟩ : ∃ f, zs.length + 1 = (f + 1) + m := ⟨zs.length - m, by omega⟩
    rw [hf, ha, textF, if_pos (by omega)]
  have ht : (tokZ zs 0).e = 2 := by
    rw [tokZ, hp, if_neg (by decide), if_neg (by decide), if_neg (by decide), if_neg (by decide), if_neg (by decide), if_neg (fun e => absurd e.1 (by decide)), if_neg (fun e => absurd e.1 (by decide)), if_neg (by decide), if_pos rfl]
    exact he
  rw [hz]
  refine ⟨hb, ?_⟩
  unfold tokT
  rw [hb, if_neg (by rw [ht]; decide), ht]
end Go.Proofs.Ytojbhckgegoldaa
