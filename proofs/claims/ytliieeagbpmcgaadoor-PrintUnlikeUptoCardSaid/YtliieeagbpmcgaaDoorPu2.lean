/- Contracts of functions that the law calls, and what they lean on (a part). -/
import Derived.Outline
import Derived.LoopTactic
import Derived.WalkLawsBesides
import Derived.Test.YtliieeagbpmcgaaDoorPu1
namespace Go.Proofs.YtliieeagbpmcgaaDoor
section
open Go.RowKit
set_option linter.unusedVariables false
/-- How many points, how many digits; none: another byte. -/
def scanP : List Int → Nat → Nat → Option (Nat × Nat)
  | [], P, D => some (P, D)
  | z :: r, P, D => if z = 46 then scanP r (P + 1) D else if 48 ≤ z ∧ z ≤ 57 then scanP r P (D + 1) else none
/-- The whole part, and what is left from the point on; none: it is above the greatest. -/
def wholeZ : List Int → Int → Option (Int × List Int)
  | [], a => some (a, [])
  | z :: r, a => if z = 46 then some (a, z :: r) else if 2147483647 < 10 * a + (z - 48) then none else wholeZ r (10 * a + (z - 48))
/-- k digits behind the point, noughts where there are none. -/
def fracK (l : List Int) : Nat → Int
  | 0 => 0
  | k + 1 => 10 * fracK l k + (if k < l.length then l.getD k 0 - 48 else 0)
def sgZ (neg : Bool) (v : Int) : Int := if neg = true then -v else v
def restS (neg : Bool) (l : List Int) : Int × Bool × Int :=
  match scanP l 0 0 with
  | none => (0, false, 4)
  | some (P, D) => if 1 < P ∨ D = 0 then (0, false, 4) else
    match wholeZ l 0 with
    | none => (0, false, 5)
    | some (v, r) => if P = 0 then (sgZ neg v, true, 0) else (sgZ neg (v * 100000 + fracK (r.drop 1) 5), false, 0)
def parseS : List Int → Int × Bool × Int
  | [] => restS false []
  | z :: r => if z = 43 then restS false r else if z = 45 then restS true r else restS false (z :: r)
end

section
open Go.RowKit
set_option linter.unusedVariables false
/-- A delimiter. -/
def delB (c : Int) : Bool := c == 40 || c == 41 || c == 60 || c == 62 || c == 91 || c == 93 || c == 123 || c == 125 || c == 47 || c == 37
/-- A regular sign. -/
def regB (c : Int) : Bool := !delB c && (decide (0 ≤ c) && decide (c ≤ 255) && !whB c)
/-- What begins a number. -/
def nmB (c : Int) : Bool := decide (48 ≤ c ∧ c ≤ 57) || c == 43 || c == 45 || c == 46
/-- A digit of base 16, or what may stand between two. -/
def prB (c : Int) : Bool := decide (0 ≤ dgZ c) || whB c
/-- How many signs of a kind stand first. -/
def rowZ (K : Int → Bool) : List Int → Nat
  | [] => 0
  | c :: cs => if K c = true then rowZ K cs + 1 else 0
theorem rowZ_le (K : Int → Bool) : ∀ l : List Int, rowZ K l ≤ l.length
  | [] => Nat.le_refl _
  | c :: cs => by
    have := rowZ_le K cs
    rw [rowZ]
    split
    · simp; omega
    · simp
theorem peekZ_nat (zs : List Int) (q : Nat) (h : zs.length ≤ q) : peekZ zs (q : Int) = -1 := peekZ_out zs q (.inr (by omega))
theorem drop_peek (zs : List Int) (q : Nat) (h : q < zs.length) : zs.drop q = peekZ zs (q : Int) :: zs.drop (q + 1) := by
  rw [peekZ_in zs q h, drop_getD zs q h]
theorem peekZ_lt (zs : List Int) (q : Nat) (h : 0 ≤ peekZ zs (q : Int)) : q < zs.length := by
  rcases Nat.lt_or_ge q zs.length with hq | hq
  · exact hq
  · rw [peekZ_nat zs q hq] at h; omega
theorem row_in (K : Int → Bool) (hK : K (-1) = false) (zs : List Int) (q : Nat) (h : K (peekZ zs (q : Int)) = true) : q < zs.length ∧ rowZ K (zs.drop q) = rowZ K (zs.drop (q + 1)) + 1 := by
  rcases Nat.lt_or_ge q zs.length with hq | hq
  · exact ⟨hq, by rw [drop_peek zs q hq, rowZ, if_pos h]⟩
  · rw [peekZ_nat zs q hq, hK] at h; cases h
theorem row_out (K : Int → Bool) (zs : List Int) (q : Nat) (h : K (peekZ zs (q : Int)) = false) : rowZ K (zs.drop q) = 0 := by
  rcases Nat.lt_or_ge q zs.length with hq | hq
  · rw [drop_peek zs q hq, rowZ, if_neg (by rw [h]; decide)]
  · rw [List.drop_of_length_le hq]; rfl
/-- How many signs are blank (in a comment: the first argument). -/
def blkZ : Bool → List Int → Nat
  | _, [] => 0
  | false, c :: cs => if whB c = true then blkZ false cs + 1 else if c = 37 then blkZ true cs + 1 else 0
  | true, c :: cs => if c = 10 ∨ c = 13 then blkZ false cs + 1 else blkZ true cs + 1
theorem blk_wh (zs : List Int) (q : Nat) (h : whB (peekZ zs (q : Int)) = true) : q < zs.length ∧ blkZ false (zs.drop q) = blkZ false (zs.drop (q + 1)) + 1 := by
  rcases Nat.lt_or_ge q zs.length with hq | hq
  · exact ⟨hq, by rw [drop_peek zs q hq, blkZ, if_pos h]⟩
  · rw [peekZ_nat zs q hq] at h; cases h
theorem blk_no (zs : List Int) (q : Nat) (h : whB (peekZ zs (q : Int)) = false) (h2 : ¬ peekZ zs (q : Int) = 37) : blkZ false (zs.drop q) = 0 := by
  rcases Nat.lt_or_ge q zs.length with hq | hq
  · rw [drop_peek zs q hq, blkZ, if_neg (by rw [h]; decide), if_neg h2]
  · rw [List.drop_of_length_le hq]; rfl
/-- Where blanks end. -/
def blkP (zs : List Int) (p : Nat) : Nat := p + blkZ false (zs.drop p)
theorem blkP_wh (zs : List Int) (q : Nat) (h : whB (peekZ zs (q : Int)) = true) : q < zs.length ∧ blkP zs q = blkP zs (q + 1) := by
  have := blk_wh zs q h
  unfold blkP; omega
theorem blkP_no (zs : List Int) (q : Nat) (h : whB (peekZ zs (q : Int)) = false) (h2 : ¬ peekZ zs (q : Int) = 37) : blkP zs q = q := by
  have := blk_no zs q h h2
  unfold blkP; omega
/-- A name from a place on: what is wrong, its bytes, where it ends. -/
def nameF (zs : List Int) : Nat → Nat → List Int → Int × List Int × Nat
  | 0, p, o => (4, [], p)
  | f + 1, p, o =>
    if regB (peekZ zs (p : Int)) = false then (0, o, p)
    else if peekZ zs (p : Int) = 35 then
      (if dgZ (peekZ zs ((p + 1 : Nat) : Int)) < 0 ∨ dgZ (peekZ zs ((p + 2 : Nat) : Int)) < 0 ∨ dgZ (peekZ zs ((p + 1 : Nat) : Int)) + dgZ (peekZ zs ((p + 2 : Nat) : Int)) = 0 then (4, [], p)
       else if 127 ≤ o.length then (3, [], p) else nameF zs f (p + 3) (o ++ [dgZ (peekZ zs ((p + 1 : Nat) : Int)) * 16 + dgZ (peekZ zs ((p + 2 : Nat) : Int))]))
    else if 127 ≤ o.length then (3, [], p) else nameF zs f (p + 1) (o ++ [peekZ zs (p : Int)])
def octB (c : Int) : Bool := decide (48 ≤ c ∧ c ≤ 55)
/-- Behind a backslash: the byte (-1: none), and the place behind it. -/
def escZ (zs : List Int) (p : Nat) : Int × Nat :=
  if peekZ zs (p : Int) = 110 then (10, p + 1) else if peekZ zs (p : Int) = 114 then (13, p + 1) else if peekZ zs (p : Int) = 116 then (9, p + 1) else if peekZ zs (p : Int) = 98 then (8, p + 1) else if peekZ zs (p : Int) = 102 then (12, p + 1)
  else if peekZ zs (p : Int) = 13 then (-1, if peekZ zs ((p + 1 : Nat) : Int) = 10 then p + 2 else p + 1)
  else if peekZ zs (p : Int) = 10 then (-1, p + 1)
  else if octB (peekZ zs (p : Int)) = true then
    (if octB (peekZ zs ((p + 1 : Nat) : Int)) = true then
      (if octB (peekZ zs ((p + 2 : Nat) : Int)) = true then ((((peekZ zs (p : Int) - 48) * 8 + (peekZ zs ((p + 1 : Nat) : Int) - 48)) * 8 + (peekZ zs ((p + 2 : Nat) : Int) - 48)) % 256, p + 3)
       else (((peekZ zs (p : Int) - 48) * 8 + (peekZ zs ((p + 1 : Nat) : Int) - 48)) % 256, p + 2))
     else ((peekZ zs (p : Int) - 48) % 256, p + 1))
  else (peekZ zs (p : Int), p + 1)
/-- A part of a text: its byte (-1: none), the place behind it, how the brackets change. -/
def pcZ (zs : List Int) (p : Nat) : Int × Nat × Int :=
  if peekZ zs (p : Int) = 92 then (if zs.length ≤ p + 1 then (-1, p + 1, 0) else ((escZ zs (p + 1)).1, (escZ zs (p + 1)).2, 0))
  else if peekZ zs (p : Int) = 13 then (10, if peekZ zs ((p + 1 : Nat) : Int) = 10 then p + 2 else p + 1, 0)
  else (peekZ zs (p : Int), p + 1, if peekZ zs (p : Int) = 40 then 1 else if peekZ zs (p : Int) = 41 then -1 else 0)
/-- A text from a place on, within k brackets: what is wrong, its bytes, where it ends. -/
def textF (zs : List Int) : Nat → Nat → Int → List Int → Int × List Int × Nat
  | 0, p, _, _ => (2, [], p)
  | f + 1, p, k, o =>
    if zs.length ≤ p then (2, [], p)
    else if k + (pcZ zs p).2.2 = 0 then (0, o, (pcZ zs p).2.1)
    else if (pcZ zs p).1 < 0 then textF zs f (pcZ zs p).2.1 (k + (pcZ zs p).2.2) o
    else if 32767 ≤ o.length then (3, [], (pcZ zs p).2.1)
    else textF zs f (pcZ zs p).2.1 (k + (pcZ zs p).2.2) (o ++ [(pcZ zs p).1])
/-- Digits from a place on. -/
def hexZ (zs : List Int) (p : Nat) : Int × List Int × Nat :=
  (if (unhxR 32767 (zs.drop p) (-1) []).2 = 7 then 3 else (unhxR 32767 (zs.drop p) (-1) []).2, (unhxR 32767 (zs.drop p) (-1) []).1, p + rowZ prB (zs.drop p) + 1)
/-- A token: what is wrong, its kind, number, bytes, where it ends. -/
structure Tk where
  e : Int
  k : Int
  v : Int
  b : List Int
  q : Nat
/-- The token that begins at a place. -/
def tokZ (zs : List Int) (p : Nat) : Tk :=
  if peekZ zs (p : Int) < 0 then ⟨0, 0, 0, [], p⟩
  else if nmB (peekZ zs (p : Int)) = true then ⟨(parseS ((zs.drop p).take (rowZ regB (zs.drop p)))).2.2, if (parseS ((zs.drop p).take (rowZ regB (zs.drop p)))).2.1 = true then 1 else 2, (parseS ((zs.drop p).take (rowZ regB (zs.drop p)))).1, [], p + rowZ regB (zs.drop p)⟩
  else if regB (peekZ zs (p : Int)) = true then (if 127 < rowZ regB (zs.drop p) then ⟨3, 0, 0, [], p⟩ else ⟨0, 9, 0, (zs.drop p).take (rowZ regB (zs.drop p)), p + rowZ regB (zs.drop p)⟩)
  else if peekZ zs (p : Int) = 91 then ⟨0, 5, 0, [], p + 1⟩
  else if peekZ zs (p : Int) = 93 then ⟨0, 6, 0, [], p + 1⟩
  else if peekZ zs (p : Int) = 60 ∧ peekZ zs ((p + 1 : Nat) : Int) = 60 then ⟨0, 7, 0, [], p + 2⟩
  else if peekZ zs (p : Int) = 62 ∧ peekZ zs ((p + 1 : Nat) : Int) = 62 then ⟨0, 8, 0, [], p + 2⟩
  else if peekZ zs (p : Int) = 47 then ⟨(nameF zs (zs.length + 1) (p + 1) []).1, 4, 0, (nameF zs (zs.length + 1) (p + 1) []).2.1, (nameF zs (zs.length + 1) (p + 1) []).2.2⟩
  else if peekZ zs (p : Int) = 40 then ⟨(textF zs (zs.length + 1) (p + 1) 1 []).1, 3, 0, (textF zs (zs.length + 1) (p + 1) 1 []).2.1, (textF zs (zs.length + 1) (p + 1) 1 []).2.2⟩
  else if peekZ zs (p : Int) = 60 then ⟨(hexZ zs (p + 1)).1, 3, 0, (hexZ zs (p + 1)).2.1, (hexZ zs (p + 1)).2.2⟩
  else ⟨4, 0, 0, [], p⟩
/-- Where a token begins; what it is, if it is none: nothing but what is wrong. -/
def tokT (zs : List Int) (p : Nat) : Tk :=
  if (tokZ zs (blkP zs p)).e = 0 then tokZ zs (blkP zs p) else ⟨(tokZ zs (blkP zs p)).e, 0, 0, [], blkP zs p⟩
theorem nm_reg (c : Int) (h : nmB c = true) : regB c = true := by
  unfold nmB at h
  unfold regB delB whB
  simp at h ⊢
  omega
theorem nm_dig (c : Int) : nmB c = true → (48 ≤ c ∧ c ≤ 57) ∨ c = 43 ∨ c = 45 ∨ c = 46 := by unfold nmB; simp; omega
end

section
open Go.RowKit
set_option linter.unusedVariables false
set_option maxRecDepth 100000
theorem esc_ge (zs : List Int) (p : Nat) : p < (escZ zs p).2 := by
  unfold escZ
  repeat' split
  all_goals (dsimp only; first | omega | (split <;> omega))
theorem pc_ge (zs : List Int) (p : Nat) : p < (pcZ zs p).2.1 := by
  unfold pcZ
  split
  · split
    · dsimp only; omega
    · have := esc_ge zs (p + 1)
      dsimp only; omega
  · split
    · dsimp only; split <;> omega
    · dsimp only; omega
end

section
open Go.RowKit
set_option linter.unusedVariables false
set_option maxRecDepth 100000
theorem peek_drop (zs : List Int) (q i : Nat) : peekZ zs ((q + i : Nat) : Int) = peekZ (zs.drop q) ((i : Nat) : Int) := by
  unfold peekZ
  rw [List.length_drop]
  by_cases h : q + i < zs.length
  · rw [if_pos (by omega), if_pos (by omega)]
    rw [Int.toNat_natCast, Int.toNat_natCast]
    simp only [List.getD, List.getElem?_drop]
  · rw [if_neg (by omega), if_neg (by omega)]
def shR (q : Nat) (r : Int × List Int × Nat) : Int × List Int × Nat := (r.1, r.2.1, q + r.2.2)
theorem nameQ_shift (zs : List Int) (q : Nat) : ∀ (f p : Nat) (o : List Int), nameF zs f (q + p) o = shR q (nameF (zs.drop q) f p o)
  | 0, p, o => rfl
  | f + 1, p, o => by
    rw [nameF, nameF]
    simp only [Nat.add_assoc, peek_drop]
    split
    · rfl
    split
    · split
      · rfl
      split
      · rfl
      · exact nameQ_shift zs q f (p + 3) _
    · split
      · rfl
      · exact nameQ_shift zs q f (p + 1) _
theorem peek_past (zs : List Int) (p : Nat) (h : zs.length ≤ p) : peekZ zs (p : Int) = -1 := by
  unfold peekZ
  rw [if_neg (by omega)]
theorem nameQ_fuel (zs : List Int) : ∀ (f g p : Nat) (o : List Int), zs.length - p < f → zs.length - p < g → nameF zs f p o = nameF zs g p o
  | 0, g, p, o, h, _ => absurd h (Nat.not_lt_zero _)
  | f + 1, 0, p, o, _, h => absurd h (Nat.not_lt_zero _)
  | f + 1, g + 1, p, o, hf, hg => by
    rw [nameF, nameF]
    split
    · rfl
    rename_i h1
    have hp : p < zs.length := by
      rcases Nat.lt_or_ge p zs.length with h | h
      · exact h
      · rw [peek_past zs p h] at h1
        exact absurd (by decide) h1
    split
    · split
      · rfl
      split
      · rfl
      · exact nameQ_fuel zs f g (p + 3) _ (by omega) (by omega)
    · split
      · rfl
      · exact nameQ_fuel zs f g (p + 1) _ (by omega) (by omega)
theorem escQ_shift (zs : List Int) (q p : Nat) : escZ zs (q + p) = ((escZ (zs.drop q) p).1, q + (escZ (zs.drop q) p).2) := by
  have h0 := peek_drop zs q p
  have h1 : peekZ zs ((q + p + 1 : Nat) : Int) = peekZ (zs.drop q) ((p + 1 : Nat) : Int) := peek_drop zs q (p + 1)
  have h2 : peekZ zs ((q + p + 2 : Nat) : Int) = peekZ (zs.drop q) ((p + 2 : Nat) : Int) := peek_drop zs q (p + 2)
  unfold escZ
  rw [h0, h1, h2]
  obtain ⟨a, ha⟩ : ∃ a, peekZ (zs.drop q) ((p : Nat) : Int) = a := ⟨_, rfl⟩
  obtain ⟨b, hb⟩ : ∃ b, peekZ (zs.drop q) ((p + 1 : Nat) : Int) = b := ⟨_, rfl⟩
  obtain ⟨c, hc⟩ : ∃ c, peekZ (zs.drop q) ((p + 2 : Nat) : Int) = c := ⟨_, rfl⟩
  rw [ha, hb, hc]
  clear ha hb hc h0 h1 h2
  by_cases e0 : a = 110
  · rw [if_pos e0, if_pos e0]; rfl
  rw [if_neg e0, if_neg e0]
  by_cases e1 : a = 114
  · rw [if_pos e1, if_pos e1]; rfl
  rw [if_neg e1, if_neg e1]
  by_cases e2 : a = 116
  · rw [if_pos e2, if_pos e2]; rfl
  rw [if_neg e2, if_neg e2]
  by_cases e3 : a = 98
  · rw [if_pos e3, if_pos e3]; rfl
  rw [if_neg e3, if_neg e3]
  by_cases e4 : a = 102
  · rw [if_pos e4, if_pos e4]; rfl
  rw [if_neg e4, if_neg e4]
  by_cases e5 : a = 13
  · rw [if_pos e5, if_pos e5]
    by_cases e6 : b = 10
    · rw [if_pos e6, if_pos e6]; rfl
    · rw [if_neg e6, if_neg e6]; rfl
  rw [if_neg e5, if_neg e5]
  by_cases e6 : a = 10
  · rw [if_pos e6, if_pos e6]; rfl
  rw [if_neg e6, if_neg e6]
  by_cases e7 : octB a = true
  · rw [if_pos e7, if_pos e7]
    by_cases e8 : octB b = true
    · rw [if_pos e8, if_pos e8]
      by_cases e9 : octB c = true
      · rw [if_pos e9, if_pos e9]; rfl
      · rw [if_neg e9, if_neg e9]; rfl
    · rw [if_neg e8, if_neg e8]; rfl
  · rw [if_neg e7, if_neg e7]; rfl
theorem lenQ_drop (zs : List Int) (q p : Nat) : (zs.length ≤ q + p) = ((zs.drop q).length ≤ p) := by
  rw [List.length_drop]
  exact propext ⟨fun h => by omega, fun h => by omega⟩
theorem pcQ_shift (zs : List Int) (q p : Nat) : pcZ zs (q + p) = ((pcZ (zs.drop q) p).1, q + (pcZ (zs.drop q) p).2.1, (pcZ (zs.drop q) p).2.2) := by
  have h0 := peek_drop zs q p
  have h1 : peekZ zs ((q + p + 1 : Nat) : Int) = peekZ (zs.drop q) ((p + 1 : Nat) : Int) := peek_drop zs q (p + 1)
  have h2 : (zs.length ≤ q + p + 1) = ((zs.drop q).length ≤ p + 1) := lenQ_drop zs q (p + 1)
  have h3 : escZ zs (q + p + 1) = ((escZ (zs.drop q) (p + 1)).1, q + (escZ (zs.drop q) (p + 1)).2) := escQ_shift zs q (p + 1)
  unfold pcZ
  rw [h0, h1, h3]
  simp only [h2]
  split
  · split <;> rfl
  split
  · split <;> rfl
  · rfl
theorem textQ_shift (zs : List Int) (q : Nat) : ∀ (f p : Nat) (k : Int) (o : List Int), textF zs f (q + p) k o = shR q (textF (zs.drop q) f p k o)
  | 0, p, k, o => rfl
  | f + 1, p, k, o => by
    rw [textF, textF]
    simp only [lenQ_drop, pcQ_shift]
    split
    · rfl
    split
    · rfl
    split
    · exact textQ_shift zs q f _ _ _
    split
    · rfl
    · exact textQ_shift zs q f _ _ _
theorem textQ_fuel (zs : List Int) : ∀ (f g p : Nat) (k : Int) (o : List Int), zs.length - p < f → zs.length - p < g → textF zs f p k o = textF zs g p k o
  | 0, g, p, k, o, h, _ => absurd h (Nat.not_lt_zero _)
  | f + 1, 0, p, k, o, _, h => absurd h (Nat.not_lt_zero _)
  | f + 1, g + 1, p, k, o, hf, hg => by
    have hp := pc_ge zs p
    rw [textF, textF]
    split
    · rfl
    split
    · rfl
    split
    · exact textQ_fuel zs f g _ _ _ (by omega) (by omega)
    split
    · rfl
    · exact textQ_fuel zs f g _ _ _ (by omega) (by omega)
def shT (q : Nat) (t : Tk) : Tk := ⟨t.e, t.k, t.v, t.b, q + t.q⟩
theorem tokZ_shift (zs : List Int) (q : Nat) : tokZ zs q = shT q (tokZ (zs.drop q) 0) := by
  have h0 : peekZ zs (q : Int) = peekZ (zs.drop q) ((0 : Nat) : Int) := peek_drop zs q 0
  have h1 : peekZ zs ((q + 1 : Nat) : Int) = peekZ (zs.drop q) ((0 + 1 : Nat) : Int) := peek_drop zs q 1
  have hn : nameF zs (zs.length + 1) (q + 1) [] = shR q (nameF (zs.drop q) ((zs.drop q).length + 1) (0 + 1) []) := by
    rw [nameQ_shift zs q (zs.length + 1) 1 []]
    rw [nameQ_fuel (zs.drop q) (zs.length + 1) ((zs.drop q).length + 1) 1 [] (by rw [List.length_drop]; omega) (by omega)]
  have ht : textF zs (zs.length + 1) (q + 1) 1 [] = shR q (textF (zs.drop q) ((zs.drop q).length + 1) (0 + 1) 1 []) := by
    rw [textQ_shift zs q (zs.length + 1) 1 1 []]
    rw [textQ_fuel (zs.drop q) (zs.length + 1) ((zs.drop q).length + 1) 1 1 [] (by rw [List.length_drop]; omega) (by omega)]
  have hh : hexZ zs (q + 1) = shR q (hexZ (zs.drop q) (0 + 1)) := by
    unfold hexZ shR
    rw [List.drop_drop, Nat.zero_add]
    simp only [Nat.add_assoc]
  unfold tokZ
  rw [h0, h1, hn, ht, hh, List.drop_zero]
  obtain ⟨a, ha⟩ : ∃ a, peekZ (zs.drop q) ((0 : Nat) : Int) = a := ⟨_, rfl⟩
  obtain ⟨b, hb⟩ : ∃ b, peekZ (zs.drop q) ((0 + 1 : Nat) : Int) = b := ⟨_, rfl⟩
  obtain ⟨N, hN⟩ : ∃ N, nameF (zs.drop q) ((zs.drop q).length + 1) (0 + 1) [] = N := ⟨_, rfl⟩
  obtain ⟨X, hX⟩ : ∃ X, textF (zs.drop q) ((zs.drop q).length + 1) (0 + 1) 1 [] = X := ⟨_, rfl⟩
  obtain ⟨H, hH⟩ : ∃ H, hexZ (zs.drop q) (0 + 1) = H := ⟨_, rfl⟩
  rw [ha, hb, hN, hX, hH]
  obtain ⟨Z, hZ⟩ : ∃ Z, zs.drop q = Z := ⟨_, rfl⟩
  rw [hZ]
  obtain ⟨R, hR⟩ : ∃ R, rowZ regB Z = R := ⟨_, rfl⟩
  rw [hR]
  clear hn ht hh h0 h1 ha hb hN hX hH hZ hR
  by_cases c1 : a < 0
  · rw [if_pos c1, if_pos c1]; rfl
  rw [if_neg c1, if_neg c1]
  by_cases c2 : nmB a = true
  · rw [if_pos c2, if_pos c2]; unfold shT; rw [Nat.zero_add]
  rw [if_neg c2, if_neg c2]
  by_cases c3 : regB a = true
  · rw [if_pos c3, if_pos c3]
    by_cases c4 : 127 < R
    · rw [if_pos c4, if_pos c4]; rfl
    · rw [if_neg c4, if_neg c4]; unfold shT; rw [Nat.zero_add]
  rw [if_neg c3, if_neg c3]
  by_cases c4 : a = 91
  · rw [if_pos c4, if_pos c4]; rfl
  rw [if_neg c4, if_neg c4]
  by_cases c5 : a = 93
  · rw [if_pos c5, if_pos c5]; rfl
  rw [if_neg c5, if_neg c5]
  by_cases c6 : a = 60 ∧ b = 60
  · rw [if_pos c6, if_pos c6]; rfl
  rw [if_neg c6, if_neg c6]
  by_cases c7 : a = 62 ∧ b = 62
  · rw [if_pos c7, if_pos c7]; rfl
  rw [if_neg c7, if_neg c7]
  by_cases c8 : a = 47
  · rw [if_pos c8, if_pos c8]; rfl
  rw [if_neg c8, if_neg c8]
  by_cases c9 : a = 40
  · rw [if_pos c9, if_pos c9]; rfl
  rw [if_neg c9, if_neg c9]
  by_cases c10 : a = 60
  · rw [if_pos c10, if_pos c10]; rfl
  rw [if_neg c10, if_neg c10]; rfl
theorem blkP_shift (zs : List Int) (p q : Nat) : blkP zs (p + q) = p + blkP (zs.drop p) q := by
  unfold blkP
  rw [List.drop_drop]
  omega
theorem tokT_shift (zs : List Int) (p q : Nat) : tokT zs (p + q) = shT p (tokT (zs.drop p) q) := by
  have h : tokZ zs (blkP zs (p + q)) = shT p (tokZ (zs.drop p) (blkP (zs.drop p) q)) := by
    rw [blkP_shift, tokZ_shift zs, tokZ_shift (zs.drop p), List.drop_drop]
    simp only [shT, Nat.add_assoc]
  unfold tokT
  rw [h, blkP_shift]
  unfold shT
  dsimp only
  split <;> rfl
end
end Go.Proofs.YtliieeagbpmcgaaDoor
