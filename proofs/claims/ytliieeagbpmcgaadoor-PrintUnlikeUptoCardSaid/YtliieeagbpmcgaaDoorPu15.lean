/- Contracts of functions that the law calls, and what they lean on (a part). -/
import Derived.Test.YtliieeagbpmcgaaDoorPu7
import Derived.Test.YtliieeagbpmcgaaDoorPu14
namespace Go.Proofs.YtliieeagbpmcgaaDoor
section
open Go.RowKit
set_option linter.unusedVariables false
set_option maxRecDepth 100000
theorem row_app (K : Int → Bool) : ∀ (l r : List Int), (∀ z ∈ l, K z = true) → rowZ K (l ++ r) = l.length + rowZ K r
  | [], r, _ => by simp
  | c :: cs, r, h => by
    rw [List.cons_append, rowZ, if_pos (h c List.mem_cons_self), row_app K cs r (fun z hz => h z (List.mem_cons_of_mem _ hz))]
    simp; omega
theorem nm_digs {l : List Int} (h : Digs l) : ∀ z ∈ l, nmB z = true := fun z hz => by
  have := h z hz
  unfold nmB
  simp
  omega
theorem text_chars (n : Int) (whole : Bool) : ∀ z ∈ zsB (textB n whole), nmB z = true := by
  intro z hz
  unfold textB signB at hz
  rw [zsB_append] at hz
  rcases List.mem_append.1 hz with hz | hz
  · by_cases h : n < 0
    · rw [if_pos h] at hz
      simp [zsB] at hz
      subst hz; decide
    · rw [if_neg h] at hz
      simp [zsB] at hz
  · cases whole
    · rw [if_neg (by decide), zsB_append, zsB_append] at hz
      rcases List.mem_append.1 hz with hz | hz
      · rcases List.mem_append.1 hz with hz | hz
        · exact nm_digs (digB_digs _) z hz
        · simp [zsB] at hz
          subst hz; decide
      · exact nm_digs (frac_digs _) z hz
    · rw [if_pos rfl] at hz
      exact nm_digs (digB_digs _) z hz
theorem text_ne (n : Int) (whole : Bool) : zsB (textB n whole) ≠ [] := by
  intro e
  unfold textB at e
  rw [zsB_append] at e
  have e2 := (List.append_eq_nil_iff.1 e).2
  cases whole
  · rw [if_neg (by decide), zsB_append, zsB_append] at e2
    exact digB_ne _ (List.append_eq_nil_iff.1 (List.append_eq_nil_iff.1 e2).1).1
  · rw [if_pos rfl] at e2
    exact digB_ne _ e2
theorem nm_wh (c : Int) (h : nmB c = true) : whB c = false ∧ c ≠ 37 ∧ 0 ≤ c := by
  have := nm_dig c h
  refine ⟨?_, by omega, by omega⟩
  unfold whB; simp; omega
theorem num_tok (n : Int) (whole : Bool) (hn : inB n = true) (hw : whole = true → -2147483647 ≤ n ∧ n ≤ 2147483647) (e : List Int) (he : rowZ regB e = 0) :
    blkP (zsB (textB n whole) ++ e) 0 = 0 ∧ tokT (zsB (textB n whole) ++ e) 0 = ⟨0, if whole = true then 1 else 2, n, [], (textB n whole).length⟩ := by
  have hp := parse_text n whole hn hw
  have hc := text_chars n whole
  have hlen : (zsB (textB n whole)).length = (textB n whole).length := by simp [zsB]
  obtain ⟨l, hl⟩ : ∃ l, zsB (textB n whole) = l := ⟨_, rfl⟩
  have hne := text_ne n whole
  rw [hl] at hp hc hlen hne ⊢
  have hpk : nmB (peekZ (l ++ e) ((0 : Nat) : Int)) = true := by
    match l, hne with
    | c :: cs, _ =>
      rw [peekZ_in _ 0 (by simp)]
      exact hc c List.mem_cons_self
  have hw := nm_wh _ hpk
  have hrow : rowZ regB ((l ++ e).drop 0) = l.length := by
    rw [List.drop_zero, row_app regB l e (fun z hz => nm_reg z (hc z hz)), he, Nat.add_zero]
  have hb : blkP (l ++ e) 0 = 0 := blkP_no _ 0 hw.1 hw.2.1
  have ht : tokZ (l ++ e) 0 = ⟨0, if whole = true then 1 else 2, n, [], (textB n whole).length⟩ := by
    unfold tokZ
    rw [if_neg (by omega), if_pos hpk, hrow, List.drop_zero, List.take_left, hp, hlen]
    simp
  refine ⟨hb, ?_⟩
  unfold tokT
  rw [hb, ht, if_pos rfl]
end
end Go.Proofs.YtliieeagbpmcgaaDoor
