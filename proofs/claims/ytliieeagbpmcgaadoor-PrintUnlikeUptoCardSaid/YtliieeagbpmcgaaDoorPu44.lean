/- Contracts of functions that the law calls, and what they lean on (a part). -/
import Derived.Test.YtliieeagbpmcgaaDoorPu24
import Derived.Test.YtliieeagbpmcgaaDoorPu43
namespace Go.Proofs.YtliieeagbpmcgaaDoor
section
open Go.RowKit
set_option linter.unusedVariables false
set_option maxRecDepth 100000
/-- A number's signs. -/
def nuZ (n : Int) (whole : Bool) : List Int := zsB (textB n whole)
mutual
/-- An object in bytes. -/
def prO : Ob → List Int
  | .mk k n b l d => if k = 1 then (if n = 1 then [116, 114, 117, 101] else [102, 97, 108, 115, 101])
    else if k = 2 then nuZ n true
    else if k = 3 then nuZ n false
    else if k = 4 then txS b
    else if k = 5 then 47 :: nmS b
    else if k = 9 then nuZ n true ++ [32, 48, 32, 82]
    else if k = 6 then [91] ++ prL l true ++ [93]
    else if k = 7 ∨ k = 8 then [60, 60] ++ prE d ++ [62, 62]
    else [110, 117, 108, 108]
/-- Objects, a blank between two; is it the first? -/
def prL : Obs → Bool → List Int
  | .nil, _ => []
  | .cons x xs, f => (if f = true then [] else [32]) ++ prO x ++ prL xs false
/-- Entries, one behind the other. -/
def prE : Ens → List Int
  | .nil => []
  | .cons s x xs => (47 :: nmS (strZ s)) ++ [32] ++ prO x ++ prE xs
end
theorem nuZ_len (n : Int) (whole : Bool) : (nuZ n whole).length ≤ 100 := by
  unfold nuZ zsB
  rw [List.length_map]
  have h1 := digB_le n.natAbs
  have h2 := digB_le (n.natAbs / 100000)
  have h3 : (fracB n.natAbs).length ≤ 20 := by
    obtain ⟨j, hj⟩ := stripZ_spec ((digB (100000 + n.natAbs % 100000)).drop 1)
    have e := congrArg List.length hj
    have h4 := digB_le (100000 + n.natAbs % 100000)
    rw [List.length_append, List.length_drop] at e
    show (stripZ _).length ≤ 20
    omega
  have h5 : (signB n).length ≤ 1 := by unfold signB; split <;> simp
  unfold textB
  rw [List.length_append]
  split
  · omega
  · simp only [List.length_append, List.length_singleton]; omega
theorem nmS_len13 : ∀ a : List Int, (nmS a).length ≤ 3 * a.length
  | [] => Nat.le_refl _
  | c :: cs => by
    have := nmS_len13 cs
    rw [nmS, List.length_append, List.length_cons]
    split <;> simp <;> omega
theorem txS_len (a : List Int) : (txS a).length ≤ 2 * a.length + 2 := by
  unfold txS
  split
  · simp; omega
  · have h := hxB_len a
    simp only [List.length_cons, List.length_append, List.length_nil]; omega
theorem nameZ_le {b : List Int} (h : nameZ b = true) : b.length ≤ 127 := by
  unfold nameZ at h
  split at h
  · cases h
  · omega
mutual
theorem prO_len : ∀ (x : Ob) (e : Int), mayO x e = true → (prO x).length + 400 ≤ 1000 * bkO x
  | .mk k n b l d, e, h => by
    rw [prO, bkO]
    rw [mayO] at h
    have hn1 := nuZ_len n true
    have hn2 := nuZ_len n false
    have ht := txS_len b
    by_cases k1 : k = 1
    · rw [if_pos k1]; split <;> simp <;> omega
    rw [if_neg k1]
    by_cases k2 : k = 2
    · rw [if_pos k2]; omega
    rw [if_neg k2]
    by_cases k3 : k = 3
    · rw [if_pos k3]; omega
    rw [if_neg k3]
    by_cases k4 : k = 4
    · rw [if_pos k4]; omega
    rw [if_neg k4]
    rw [if_neg k1, if_neg k2, if_neg k3] at h
    split at h
    · cases h
    by_cases k5 : k = 5
    · rw [if_pos k5]
      rw [if_neg (by omega)] at h
      split at h
      · cases h
      simp [k5] at h
      have := nameZ_le h
      have := nmS_len13 b
      simp only [List.length_cons]; omega
    rw [if_neg k5]
    by_cases k9 : k = 9
    · rw [if_pos k9]; simp; omega
    rw [if_neg k9] at h ⊢
    split at h
    · cases h
    by_cases k6 : k = 6
    · rw [if_pos k6]
      simp [k6] at h
      have h1 := prL_len l true e h.1
      simp only [List.length_append, List.length_cons, List.length_nil]; omega
    rw [if_neg k6]
    by_cases k7 : k = 7 ∨ k = 8
    · rw [if_pos k7]
      have h2 : mayE d none e = true := by
        rcases k7 with rfl | rfl
        all_goals
          simp at h
          exact h.2
      have h1 := prE_len d none e h2
      simp only [List.length_append, List.length_cons, List.length_nil]; omega
    rw [if_neg k7]
    simp; omega
theorem prL_len : ∀ (l : Obs) (f : Bool) (e : Int), mayL l e = true → (prL l f).length ≤ 1000 * bkL l
  | .nil, f, e, h => by rw [prL]; simp
  | .cons x xs, f, e, h => by
    rw [mayL] at h
    rw [prL, bkL]
    split at h
    · cases h
    split at h
    · rename_i h1
      have h2 := prO_len x (e - 1) h1
      have h3 := prL_len xs false e h
      have h4 : (if f = true then ([] : List Int) else [32]).length ≤ 1 := by split <;> simp
      simp only [List.length_append]; omega
    · cases h
theorem prE_len : ∀ (d : Ens) (p : Option ByteArray) (e : Int), mayE d p e = true → (prE d).length ≤ 1000 * bkE d
  | .nil, p, e, h => by rw [prE]; simp
  | .cons s x xs, p, e, h => by
    rw [mayE] at h
    rw [prE, bkE]
    split at h
    · rename_i h1
      have h2 := prO_len x (e - 1) h1.2.2.2.2
      have h3 := prE_len xs (some s) e h
      have h4 := nameZ_le h1.1
      have h5 := nmS_len13 (strZ s)
      simp only [List.length_append, List.length_cons, List.length_nil]; omega
    · cases h
end
theorem nmS_ge13 : ∀ a : List Int, a.length ≤ (nmS a).length
  | [] => Nat.le_refl _
  | c :: cs => by
    have := nmS_ge13 cs
    rw [nmS, List.length_append, List.length_cons]
    split <;> simp <;> omega
theorem nameZ_ne {b : List Int} (h : nameZ b = true) : ∀ z ∈ b, z ≠ 0 := fun z hz => by
  unfold nameZ at h
  split at h
  · cases h
  · simpa using List.all_eq_true.1 h z hz
theorem nuZ_pos (n : Int) (whole : Bool) : 0 < (nuZ n whole).length := List.length_pos_iff.2 (text_ne n whole)
theorem prO_pos (x : Ob) : 0 < (prO x).length := by
  obtain ⟨k, n, b, l, d⟩ := x
  have h1 := nuZ_pos n true
  have h2 := nuZ_pos n false
  rw [prO]
  repeat' split
  all_goals first | (simp; done) | omega | (unfold txS; split <;> simp) | (simp; omega)
mutual
/-- What a printer asks of an object: short names, short strings, no stream within. -/
def fnO : Ob → Prop
  | .mk k n b l d => (k = 5 → b.length ≤ 127) ∧ (k = 4 → b.length ≤ 32767) ∧ fnL l ∧ fnE d
def fnL : Obs → Prop
  | .nil => True
  | .cons x xs => x.kind ≠ 8 ∧ fnO x ∧ fnL xs
def fnE : Ens → Prop
  | .nil => True
  | .cons s x xs => s.size ≤ 127 ∧ x.kind ≠ 8 ∧ fnO x ∧ fnE xs
end
theorem nameS_le {s : ByteArray} (h : nameS s = true) : s.size ≤ 127 := by
  have := nameZ_le h
  rw [strZ_len] at this
  exact this
mutual
theorem fn_mayO : ∀ (x : Ob) (e : Int), mayO x e = true → fnO x
  | .mk k n b l d, e, h => by
    obtain ⟨-, hl, hd, -⟩ := may_parts h
    unfold fnO
    refine ⟨fun k5 => ?_, fun k4 => ?_, ?_, ?_⟩
    · subst k5
      rw [mayO] at h
      by_cases hb : badF 5 b.length l.len d.len = true
      · rw [if_pos hb] at h; cases h
      rw [if_neg hb, if_neg (by decide), if_neg (by decide), if_neg (by decide), if_neg (by decide)] at h
      by_cases hn : n ≠ 0
      · rw [if_pos hn] at h; cases h
      rw [if_neg hn, if_neg (by decide), if_neg (by decide), if_pos rfl] at h
      exact nameZ_le h
    · subst k4
      rw [mayO] at h
      by_cases hb : badF 4 b.length l.len d.len = true
      · rw [if_pos hb] at h; cases h
      rw [if_neg hb, if_neg (by decide), if_neg (by decide), if_neg (by decide), if_neg (by decide)] at h
      by_cases hn : n ≠ 0
      · rw [if_pos hn] at h; cases h
      rw [if_neg hn, if_neg (by decide), if_pos rfl] at h
      exact of_decide_eq_true h
    · rcases hl with rfl | hl
      · unfold fnL; trivial
      · exact fn_mayL l e hl
    · rcases hd with rfl | hd
      · unfold fnE; trivial
      · exact fn_mayE d none e hd
theorem fn_mayL : ∀ (l : Obs) (e : Int), mayL l e = true → fnL l
  | .nil, e, h => by unfold fnL; trivial
  | .cons x xs, e, h => by
    rw [mayL] at h
    split at h
    · cases h
    rename_i h0
    split at h
    · rename_i h1
      unfold fnL
      exact ⟨fun h2 => h0 (.inl h2), fn_mayO x (e - 1) h1, fn_mayL xs e h⟩
    · cases h
theorem fn_mayE : ∀ (d : Ens) (p : Option ByteArray) (e : Int), mayE d p e = true → fnE d
  | .nil, p, e, h => by unfold fnE; trivial
  | .cons s x xs, p, e, h => by
    rw [mayE] at h
    split at h
    · rename_i h1
      unfold fnE
      exact ⟨nameS_le h1.1, h1.2.2.1, fn_mayO x (e - 1) h1.2.2.2.2, fn_mayE xs (some s) e h⟩
    · cases h
end
end
end Go.Proofs.YtliieeagbpmcgaaDoor
