/- Chapter 8, the document's own LzwDecode: what a step leaves, pure and by its state. -/
import Derived.Test.YtpnnejedfccckaaLy8
import Derived.Test.YtpnnejedfccckaaSp8
namespace Go.Proofs.Ytpnnejedfccckaa
open Go.RowKit
set_option linter.unusedVariables false
set_option maxRecDepth 100000

theorem OwnV.cells8 {w : World} {base : Nat} {e : TypeId} {v : Value} {xs : List Value} (h : OwnV w base e v xs) (h0 : 0 < xs.length) : ∃ g c, v = .slice (some ⟨g, 0, none⟩) xs.length c ∧ g < w.heap.size ∧ base ≤ g ∧ ∀ i (hi : i < xs.length), w.cell? ⟨g, i, none⟩ = some (xs[i]'hi) := by
  rcases h.2 with ⟨rfl, h1⟩ | ⟨g, cap, cur, rfl, hb, hh, hn, hm, hs, ht⟩
  · omega
  · refine ⟨g, cap, rfl, (h.lt g rfl).1, hb, fun i hi => ?_⟩
    rw [cell_of_row w g i cur e (0, 0) hh]
    rw [Nat.mul_one] at ht
    have := congrArg (·[i]?) ht
    simp only [List.getElem?_take_of_lt hi, List.getElem?_eq_getElem hi] at this
    rw [← this]
    simp
theorem StS.bad8 {now now' : List Int × Int} {bad : Int} {R : List Int × Int} (h : StS now bad R) (hb : ¬ bad = 0) : StS now' bad R := by
  rcases h with ⟨h, _⟩ | h
  · exact absurd h hb
  · exact .inr h
theorem StS.ok8 {now : List Int × Int} {R : List Int × Int} (h : StS now 0 R) : now = R := by
  rcases h with ⟨_, h⟩ | ⟨h, _⟩
  · exact h
  · exact absurd rfl h
theorem high_bd (zs : List Int) (p w : Nat) (hw : w ≤ 12) : highZ zs p w = -1 ∨ (p + w ≤ 8 * zs.length ∧ 0 ≤ highZ zs p w ∧ highZ zs p w < 4096) := by
  unfold highZ
  split
  · exact .inl rfl
  · have h := hbits_bd zs p w
    have h2 : (2 : Int) ^ w ≤ 4096 := by
      have : ∀ k : Fin 13, (2 : Int) ^ k.val ≤ 4096 := by decide
      exact this ⟨w, by omega⟩
    exact .inr ⟨by omega, h.1, by omega⟩
/-- What came of a row, up to a place in it. -/
def PutS (out x out2 : List Int) (M i : Nat) (bad2 : Int) : Prop := (bad2 = 0 ∧ out2 = out ++ x.take i ∧ (i = 0 ∨ out.length + i ≤ M)) ∨ (bad2 = 7 ∧ M < out.length + i)
theorem PutS.start (out x : List Int) (M : Nat) : PutS out x out M 0 0 := .inl ⟨rfl, by simp, .inl rfl⟩
theorem PutS.step {out x out2 : List Int} {M i : Nat} {bad2 : Int} (h : PutS out x out2 M i bad2) (hi : i < x.length) : PutS out x (skO M out2 bad2 (x.getD i 0)) M (i + 1) (skE M out2 bad2) := by
  rcases h with ⟨rfl, rfl, hl⟩ | ⟨rfl, hl⟩
  · have hlen : (out ++ x.take i).length = out.length + i := by rw [List.length_append, List.length_take]; omega
    unfold skO skE
    rw [hlen]
    by_cases h : out.length + i < M
    · rw [if_pos ⟨rfl, h⟩, if_neg (by omega)]
      refine .inl ⟨rfl, ?_, .inr (by omega)⟩
      rw [take_snocZ x i hi, List.append_assoc]
    · rw [if_neg (by omega), if_pos ⟨rfl, by omega⟩]
      exact .inr ⟨rfl, by omega⟩
  · unfold skE
    rw [if_neg (by omega)]
    exact .inr ⟨rfl, by omega⟩
theorem skO_len (M : Nat) (out : List Int) (bad z : Int) : (skO M out bad z).length ≤ out.length + 1 := by
  unfold skO
  split <;> simp
theorem PutS.done {out x out2 : List Int} {M : Nat} {bad2 : Int} {R now : List Int × Int} (h : PutS out x out2 M x.length bad2) (hx : 0 < x.length) (hR : (if out.length + x.length ≤ M then now else ([], 7)) = R) (hnow : out2 = out ++ x → now = now) : StS now bad2 R ∧ (bad2 = 0 → out2 = out ++ x) := by
  rcases h with ⟨rfl, rfl, hl⟩ | ⟨rfl, hl⟩
  · rw [List.take_length]
    rw [if_pos (by omega)] at hR
    exact ⟨.inl ⟨rfl, hR⟩, fun _ => rfl⟩
  · rw [if_neg (by omega)] at hR
    exact ⟨.inr ⟨by decide, hR.symm⟩, fun h => by cases h⟩
/-- How long rows may be. -/
structure LenT (T : List (List Int)) (last : List Int) : Prop where
  rows : ∀ k, k < T.length → (T.getD k []).length ≤ T.length + 1
  lst : last.length ≤ T.length + 1
  few : T.length ≤ 3838
theorem LenT.start : LenT [] [] := ⟨fun k h => absurd h (Nat.not_lt_zero _), by simp, by simp⟩
theorem LenT.next {T : List (List Int)} {last x : List Int} (h : LenT T last) (hx : x.length ≤ T.length + 1 ∨ (last ≠ [] ∧ T.length < 3838 ∧ x.length ≤ T.length + 2)) : LenT (lzT T last x) x := by
  have hf := h.few
  have hl := h.lst
  unfold lzT
  by_cases hc : last ≠ [] ∧ 258 + T.length < 4096
  · rw [if_pos hc]
    refine ⟨fun k hk => ?_, by rw [List.length_append]; simp; omega, by rw [List.length_append]; simp; omega⟩
    rw [List.length_append, List.length_singleton] at hk ⊢
    by_cases hlt : k < T.length
    · have e : (T ++ [last ++ [x.getD 0 0]]).getD k [] = T.getD k [] := by simp only [List.getD]; rw [List.getElem?_append_left hlt]
      rw [e]
      have := h.rows k hlt
      omega
    · obtain rfl : k = T.length := by omega
      have e : (T ++ [last ++ [x.getD 0 0]]).getD T.length [] = last ++ [x.getD 0 0] := by simp [List.getD]
      rw [e, List.length_append, List.length_singleton]
      omega
  · rw [if_neg hc]
    refine ⟨h.rows, ?_, hf⟩
    rcases hx with hx | ⟨h1, h2, h3⟩
    · exact hx
    · exact absurd ⟨h1, by omega⟩ hc
end Go.Proofs.Ytpnnejedfccckaa
