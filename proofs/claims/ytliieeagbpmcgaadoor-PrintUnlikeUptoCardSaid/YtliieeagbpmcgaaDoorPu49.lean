/- Contracts of functions that the law calls, and what they lean on (a part). -/
import Derived.Test.YtliieeagbpmcgaaDoorPu29
import Derived.Test.YtliieeagbpmcgaaDoorPu24
namespace Go.Proofs.YtliieeagbpmcgaaDoor
section
open Go.RowKit
set_option linter.unusedVariables false
set_option maxRecDepth 100000
theorem strR_of {l : List Int} (hr : ∀ z ∈ l, 0 ≤ z ∧ z < 256) : strOfNums l = strR ↔ l = [82] := by
  constructor
  · intro h
    have h1 := congrArg (fun s : ByteArray => s.data.toList) h
    have h2 : (strOfNums l).data.toList = [82] := h1
    rw [strOfNums_data] at h2
    rcases l with _ | ⟨z, _ | ⟨y, l⟩⟩
    · cases h2
    · have := hr z (by simp)
      simp at h2
      have h3 := congrArg UInt8.toNat h2
      simp at h3
      have h4 : z = 82 := by omega
      rw [h4]
    · simp at h2
  · intro h; subst h; rfl
theorem strR_size : strR.size = 1 := rfl
theorem stR (zs : List Int) (hr : ∀ z ∈ zs, 0 ≤ z ∧ z < 256) (p : Nat) : stB zs p strR = decide (peekZ zs (p : Int) = 82) := by
  by_cases h : p < zs.length
  · rw [stB_yes zs p strR (by rw [strR_size]; omega), strR_size, drop_peek zs p h, List.take_succ_cons, List.take_zero]
    have hz : ∀ z ∈ [peekZ zs (p : Int)], 0 ≤ z ∧ z < 256 := fun z hz => by
      rw [List.mem_singleton] at hz
      subst hz
      rw [peekZ_in zs p h]
      rw [getD_eq zs p h]
      exact hr _ (List.getElem_mem h)
    have := strR_of hz
    by_cases h82 : peekZ zs (p : Int) = 82
    · rw [decide_eq_true h82, h82, show strOfNums [82] = strR by rfl]; exact beq_self_eq_true _
    · rw [decide_eq_false h82]
      have hne : ¬ strOfNums [peekZ zs (p : Int)] = strR := fun e => h82 (by have := this.1 e; simpa using this)
      exact beq_eq_false_iff_ne.2 (fun e => hne (toListB_inj e))
  · rw [stB_no zs p strR (by rw [strR_size]; omega), peekZ_nat zs p (by omega)]
    rfl
/-- R as a token. -/
theorem kwR_tok (zs : List Int) (hr : ∀ z ∈ zs, 0 ≤ z ∧ z < 256) (q : Nat) : kwB zs q strR = (decide ((tokT zs q).e = 0) && (decide ((tokT zs q).k = 9) && decide ((tokT zs q).b = [82]))) ∧ (kwB zs q strR = true → kwP zs q strR = (tokT zs q).q) := by
  unfold kwP kwB
  rw [stR zs hr]
  obtain ⟨bp, hbp⟩ : ∃ bp, blkP zs q = bp := ⟨_, rfl⟩
  unfold tokT
  rw [hbp, strR_size]
  have e1 : ((bp : Int) + ((1 : Nat) : Int)) = ((bp + 1 : Nat) : Int) := by omega
  rw [e1]
  by_cases h : peekZ zs (bp : Int) = 82
  · have hlt := peekZ_lt zs bp (by omega)
    have hrow : rowZ regB (zs.drop bp) = rowZ regB (zs.drop (bp + 1)) + 1 := (row_in regB (by decide) zs bp (by rw [h]; decide)).2
    have htz : tokZ zs bp = if 127 < rowZ regB (zs.drop bp) then ⟨3, 0, 0, [], bp⟩ else ⟨0, 9, 0, (zs.drop bp).take (rowZ regB (zs.drop bp)), bp + rowZ regB (zs.drop bp)⟩ := by
      unfold tokZ
      rw [h, if_neg (by decide), if_neg (by decide), if_pos (by decide)]
    rw [decide_eq_true h, htz]
    cases hg : regB (peekZ zs ((bp + 1 : Nat) : Int)) with
    | false =>
      have h0 := row_out regB zs (bp + 1) hg
      rw [h0] at hrow
      rw [hrow, drop_peek zs bp hlt, h]
      simp
    | true =>
      have h1 := row_in regB (by decide) zs (bp + 1) hg
      have h2 := row_in regB (by decide) zs (bp + 1) hg
      have hlen : 2 ≤ rowZ regB (zs.drop bp) := by omega
      have hne : ¬ (zs.drop bp).take (rowZ regB (zs.drop bp)) = [82] := fun e => by
        have h4 := congrArg List.length e
        have h5 := rowZ_le regB (zs.drop bp)
        rw [List.length_take] at h4
        simp only [List.length_singleton] at h4
        omega
      by_cases h127 : 127 < rowZ regB (zs.drop bp)
      · rw [if_pos h127]; simp
      · rw [if_neg h127]
        simp [hne]
  · have hne : ∀ t, (tokZ zs bp) = t → t.e = 0 → t.k = 9 → t.b = [82] → False := by
      intro t ht h0 h9 hb
      subst ht
      unfold tokZ at h0 h9 hb
      by_cases c0 : peekZ zs (bp : Int) < 0
      · rw [if_pos c0] at h9; exact absurd h9 (by simp)
      rw [if_neg c0] at h0 h9 hb
      by_cases c1 : nmB (peekZ zs (bp : Int)) = true
      · rw [if_pos c1] at hb; exact absurd hb (by simp)
      rw [if_neg c1] at h0 h9 hb
      by_cases c2 : regB (peekZ zs (bp : Int)) = true
      · rw [if_pos c2] at h0 h9 hb
        by_cases d : 127 < rowZ regB (zs.drop bp)
        · rw [if_pos d] at hb; exact absurd hb (by simp)
        · rw [if_neg d] at hb
          have h3 := row_in regB (by decide) zs bp c2
          rw [drop_peek zs bp h3.1, ← drop_peek zs bp h3.1, h3.2] at hb
          have hlt := h3.1
          rw [drop_peek zs bp hlt, List.take_succ_cons] at hb
          injection hb with hb1 hb2
          exact h hb1
      rw [if_neg c2] at h0 h9 hb
      by_cases c3 : peekZ zs (bp : Int) = 91
      · rw [if_pos c3] at h9; exact absurd h9 (by simp)
      rw [if_neg c3] at h0 h9 hb
      by_cases c4 : peekZ zs (bp : Int) = 93
      · rw [if_pos c4] at h9; exact absurd h9 (by simp)
      rw [if_neg c4] at h0 h9 hb
      by_cases c5 : peekZ zs (bp : Int) = 60 ∧ peekZ zs ((bp + 1 : Nat) : Int) = 60
      · rw [if_pos c5] at h9; exact absurd h9 (by simp)
      rw [if_neg c5] at h0 h9 hb
      by_cases c6 : peekZ zs (bp : Int) = 62 ∧ peekZ zs ((bp + 1 : Nat) : Int) = 62
      · rw [if_pos c6] at h9; exact absurd h9 (by simp)
      rw [if_neg c6] at h0 h9 hb
      by_cases c7 : peekZ zs (bp : Int) = 47
      · rw [if_pos c7] at h9; exact absurd h9 (by simp)
      rw [if_neg c7] at h0 h9 hb
      by_cases c8 : peekZ zs (bp : Int) = 40
      · rw [if_pos c8] at h9; exact absurd h9 (by simp)
      rw [if_neg c8] at h0 h9 hb
      by_cases c9 : peekZ zs (bp : Int) = 60
      · rw [if_pos c9] at h9; exact absurd h9 (by simp)
      rw [if_neg c9] at h0 h9 hb
      exact absurd h9 (by simp)
    rw [decide_eq_false h, Bool.false_and]
    refine ⟨?_, fun h => by cases h⟩
    by_cases h0 : (tokZ zs bp).e = 0
    · rw [if_pos h0]
      by_cases h9 : (tokZ zs bp).k = 9
      · by_cases hb : (tokZ zs bp).b = [82]
        · exact (hne _ rfl h0 h9 hb).elim
        · simp [hb]
      · simp [h9]
    · rw [if_neg h0]
      simp
end
end Go.Proofs.YtliieeagbpmcgaaDoor
