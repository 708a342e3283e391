/- Contracts of functions that the law calls, and what they lean on (a part). -/
import Derived.Test.YtpomkhcobpihmaaGreatPas15
import Derived.Test.YtpomkhcobpihmaaGreatPas21
namespace Go.Proofs.YtpomkhcobpihmaaGreat
section
open Go.RowKit
set_option linter.unusedVariables false
set_option maxRecDepth 100000
theorem peek_shift (zs : List Int) (q j : Nat) : peekZ zs ((q + j : Nat) : Int) = peekZ (zs.drop q) (j : Int) := by
  rcases Nat.lt_or_ge (q + j) zs.length with h | h
  · rw [peekZ_in zs (q + j) h, peekZ_in (zs.drop q) j (by rw [List.length_drop]; omega)]
    simp [List.getD]
  · rw [peekZ_nat zs (q + j) h, peekZ_nat (zs.drop q) j (by rw [List.length_drop]; omega)]
theorem esc_shift (zs : List Int) (q j : Nat) : escZ zs (q + j) = ((escZ (zs.drop q) j).1, q + (escZ (zs.drop q) j).2) := by
  unfold escZ
  rw [show q + j + 1 = q + (j + 1) by omega, show q + j + 2 = q + (j + 2) by omega, show q + j + 3 = q + (j + 3) by omega, peek_shift zs q j, peek_shift zs q (j + 1), peek_shift zs q (j + 2)]
  obtain ⟨x, hx⟩ : ∃ x, peekZ (zs.drop q) (j : Int) = x := ⟨_, rfl⟩
  obtain ⟨y, hy⟩ : ∃ y, peekZ (zs.drop q) ((j + 1 : Nat) : Int) = y := ⟨_, rfl⟩
  obtain ⟨z, hz⟩ : ∃ z, peekZ (zs.drop q) ((j + 2 : Nat) : Int) = z := ⟨_, rfl⟩
  rw [hx, hy, hz]
  clear hx hy hz
  by_cases c1 : x = 110
  · rw [if_pos c1, if_pos c1]
  rw [if_neg c1, if_neg c1]
  by_cases c2 : x = 114
  · rw [if_pos c2, if_pos c2]
  rw [if_neg c2, if_neg c2]
  by_cases c3 : x = 116
  · rw [if_pos c3, if_pos c3]
  rw [if_neg c3, if_neg c3]
  by_cases c4 : x = 98
  · rw [if_pos c4, if_pos c4]
  rw [if_neg c4, if_neg c4]
  by_cases c5 : x = 102
  · rw [if_pos c5, if_pos c5]
  rw [if_neg c5, if_neg c5]
  by_cases c6 : x = 13
  · rw [if_pos c6, if_pos c6]
    by_cases d : y = 10
    · rw [if_pos d, if_pos d]
    · rw [if_neg d, if_neg d]
  rw [if_neg c6, if_neg c6]
  by_cases c7 : x = 10
  · rw [if_pos c7, if_pos c7]
  rw [if_neg c7, if_neg c7]
  by_cases c8 : octB x = true
  · rw [if_pos c8, if_pos c8]
    by_cases d : octB y = true
    · rw [if_pos d, if_pos d]
      by_cases d2 : octB z = true
      · rw [if_pos d2, if_pos d2]
      · rw [if_neg d2, if_neg d2]
    · rw [if_neg d, if_neg d]
  · rw [if_neg c8, if_neg c8]
theorem pc_shift (zs : List Int) (q : Nat) (hq : q < zs.length) : pcZ zs q = ((pcZ (zs.drop q) 0).1, q + (pcZ (zs.drop q) 0).2.1, (pcZ (zs.drop q) 0).2.2) := by
  have h0 := peek_shift zs q 0
  have h1 := peek_shift zs q 1
  rw [Nat.add_zero] at h0
  have he := esc_shift zs q 1
  have hl := List.length_drop (i := q) (l := zs)
  unfold pcZ
  rw [h0, h1, he]
  simp only [Nat.zero_add]
  obtain ⟨x, hx⟩ : ∃ x, peekZ (zs.drop q) ((0 : Nat) : Int) = x := ⟨_, rfl⟩
  obtain ⟨y, hy⟩ : ∃ y, peekZ (zs.drop q) ((1 : Nat) : Int) = y := ⟨_, rfl⟩
  rw [hx, hy]
  by_cases c1 : x = 92
  · rw [if_pos c1, if_pos c1]
    by_cases d : zs.length ≤ q + 1
    · rw [if_pos d, if_pos (by omega)]
    · rw [if_neg d, if_neg (by omega)]
  rw [if_neg c1, if_neg c1]
  by_cases c2 : x = 13
  · rw [if_pos c2, if_pos c2]
    by_cases d : y = 10
    · rw [if_pos d, if_pos d]
    · rw [if_neg d, if_neg d]
  · rw [if_neg c2, if_neg c2]
/-- A text is read on from (q, k, o) to (q', k', o'). -/
def Adv (zs : List Int) (q : Nat) (k : Int) (o : List Int) (q' : Nat) (k' : Int) (o' : List Int) : Prop := q ≤ q' ∧ ∃ m, m + q ≤ q' ∧ ∀ f, textF zs (f + m) q k o = textF zs f q' k' o'
theorem Adv.refl (zs : List Int) (q : Nat) (k : Int) (o : List Int) : Adv zs q k o q k o := ⟨Nat.le_refl _, 0, by omega, fun f => rfl⟩
theorem Adv.trans {zs : List Int} {q q' q'' : Nat} {k k' k'' : Int} {o o' o'' : List Int} (h : Adv zs q k o q' k' o') (g : Adv zs q' k' o' q'' k'' o'') : Adv zs q k o q'' k'' o'' := by
  obtain ⟨h1, m, hm, h2⟩ := h
  obtain ⟨g1, n, hn, g2⟩ := g
  exact ⟨by omega, m + n, by omega, fun f => by rw [show f + (m + n) = (f + n) + m by omega, h2, g2]⟩
/-- One part that is a byte. -/
theorem Adv.one {zs l : List Int} {q m : Nat} {k k2 cc d : Int} {o : List Int} (hl : zs.drop q = l) (hp : pcZ l 0 = (cc, m, d)) (hk : k + d = k2) (h0 : k2 ≠ 0) (hc : 0 ≤ cc) (hm : 1 ≤ m) (hne : l ≠ []) (ho : o.length < 32767) : Adv zs q k o (q + m) k2 (o ++ [cc]) := by
  subst hl
  have hq : q < zs.length := by
    rcases Nat.lt_or_ge q zs.length with h | h
    · exact h
    · exact absurd (List.drop_of_length_le h) hne
  refine ⟨by omega, 1, by omega, fun f => ?_⟩
  rw [textF, if_neg (by omega), pc_shift zs q hq, hp]
  dsimp only
  rw [hk, if_neg h0, if_neg (by omega), if_neg (by omega)]
/-- One part that is none. -/
theorem Adv.zero {zs l : List Int} {q m : Nat} {k k2 cc d : Int} {o : List Int} (hl : zs.drop q = l) (hp : pcZ l 0 = (cc, m, d)) (hk : k + d = k2) (h0 : k2 ≠ 0) (hc : cc < 0) (hm : 1 ≤ m) (hne : l ≠ []) : Adv zs q k o (q + m) k2 o := by
  subst hl
  have hq : q < zs.length := by
    rcases Nat.lt_or_ge q zs.length with h | h
    · exact h
    · exact absurd (List.drop_of_length_le h) hne
  refine ⟨by omega, 1, by omega, fun f => ?_⟩
  rw [textF, if_neg (by omega), pc_shift zs q hq, hp]
  dsimp only
  rw [hk, if_neg h0, if_pos hc]
end
end Go.Proofs.YtpomkhcobpihmaaGreat
