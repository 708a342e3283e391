/- Chapter 6, the document's own reader of digits: group. -/
import Derived.Test.YtojbhckgegoldaaSk6
import Derived.Test.YtojbhckgegoldaaWh6
namespace Go.Proofs.Ytojbhckgegoldaa
open Go.RowKit
set_option linter.unusedVariables false
set_option maxRecDepth 100000

/-- The number of the first k of five digits. -/
def vK (g : List Int) : Nat → Int
  | 0 => 0
  | k + 1 => vK g k * 85 + g.getD k 84
theorem vK5 (g : List Int) : vK g 5 = v85 g := by simp [vK, v85]
theorem vK_bd (g : List Int) (h : ∀ d ∈ g, 0 ≤ d ∧ d ≤ 84) : ∀ k, k ≤ 5 → 0 ≤ vK g k ∧ vK g k < 85 ^ k
  | 0, _ => by simp [vK]
  | k + 1, hk => by
    have h1 := vK_bd g h k (by omega)
    have hd : 0 ≤ g.getD k 84 ∧ g.getD k 84 ≤ 84 := by
      rcases Nat.lt_or_ge k g.length with hi | hi
      · rw [show g.getD k 84 = g[k] by simp [List.getD, hi]]; exact h _ (List.getElem_mem hi)
      · rw [show g.getD k 84 = 84 by simp [List.getD, List.getElem?_eq_none hi]]; omega
    have e : (85 : Int) ^ (k + 1) = 85 ^ k * 85 := Int.pow_succ 85 k
    rw [vK]
    omega
theorem vK_le (g : List Int) (h : ∀ d ∈ g, 0 ≤ d ∧ d ≤ 84) (k : Nat) (hk : k ≤ 5) : 0 ≤ vK g k ∧ vK g k ≤ 4437053124 := by
  have h1 := vK_bd g h k hk
  have h2 : (85 : Int) ^ k ≤ 4437053125 := by
    match k, hk with
    | 0, _ => decide
    | 1, _ => decide
    | 2, _ => decide
    | 3, _ => decide
    | 4, _ => decide
    | 5, _ => decide
  omega
theorem by4_take (x : Int) (k : Nat) (h : k < 4) : (by4 x).take (k + 1) = (by4 x).take k ++ [(by4 x).getD k 0] := by
  match k, h with
  | 0, _ => rfl
  | 1, _ => rfl
  | 2, _ => rfl
  | 3, _ => rfl
theorem by4_rng (x : Int) : ∀ z ∈ by4 x, 0 ≤ z ∧ z < 256 := fun z hz => by
  simp [by4] at hz
  omega
/-- What a group leaves of a sink. -/
def GrpEnd (M : Nat) (g out out' : List Int) (b' : Int) : Prop := (b' = 0 ∧ grpR M g out = (out', 0)) ∨ (¬ b' = 0 ∧ grpR M g out = ([], b') ∧ out'.length ≤ 100000000)
/-- What k bytes leave of a sink. -/
def PutK (M : Nat) (ys out : List Int) (k : Nat) (out' : List Int) (b' : Int) : Prop := (b' = 0 ∧ out' = out ++ ys.take k ∧ out.length + k ≤ M) ∨ (b' = 7 ∧ M < out.length + k ∧ out'.length ≤ out.length + k)
theorem PutK.step {M : Nat} {ys out out' : List Int} {k : Nat} {b' : Int} (h : PutK M ys out k out' b') (z : Int) (hz : ys.take (k + 1) = ys.take k ++ [z]) (hk : (ys.take k).length = k) : PutK M ys out (k + 1) (skO M out' b' z) (skE M out' b') := by
  rcases h with ⟨rfl, rfl, h3⟩ | ⟨rfl, h2, h3⟩
  · unfold skO skE
    have hl : (out ++ ys.take k).length = out.length + k := by rw [List.length_append, hk]
    by_cases hlt : out.length + k < M
    · rw [if_pos ⟨rfl, by omega⟩, if_neg (by omega)]
      exact .inl ⟨rfl, by rw [hz, List.append_assoc], by omega⟩
    · rw [if_neg (by omega), if_pos ⟨rfl, by omega⟩]
      exact .inr ⟨rfl, by omega, by omega⟩
  · unfold skO skE
    rw [if_neg (by omega), if_neg (by omega)]
    exact .inr ⟨rfl, by omega, by omega⟩

end Go.Proofs.Ytojbhckgegoldaa
