/- Chapter 8, pure: places for rows, a copy byte by byte. -/
import Derived.Test.YtpnnejedfccckaaRz8
namespace Go.Proofs.Ytpnnejedfccckaa
open Go.RowKit
set_option linter.unusedVariables false
set_option maxRecDepth 100000

theorem cpy_in : ∀ (k : Nat) (o : List Int) (a : Nat), a + k ≤ o.length → cpy o a k = o ++ (o.drop a).take k
  | 0, o, a, _ => by simp [cpy]
  | k + 1, o, a, h => by
    rw [cpy, cpy_in k _ _ (by rw [List.length_append, List.length_singleton]; omega), List.append_assoc]
    congr 1
    rw [List.drop_append_of_le_length (by omega), List.take_append_of_le_length (by rw [List.length_drop]; omega), List.drop_eq_getElem_cons (show a < o.length by omega), List.take_succ_cons, getD_eq o a (by omega)]
    rfl
theorem cpy_add : ∀ (k m : Nat) (o : List Int) (a : Nat), cpy o a (k + m) = cpy (cpy o a k) (a + k) m
  | 0, m, o, a => by rw [Nat.zero_add]; rfl
  | k + 1, m, o, a => by rw [show k + 1 + m = (k + m) + 1 by omega, cpy, cpy, cpy_add k m, show a + 1 + k = a + (k + 1) by omega]
theorem cpy_over (k : Nat) (o : List Int) (a : Nat) (h : a + k = o.length) (hk : 1 ≤ k) : cpy o a (k + 1) = o ++ (o.drop a ++ [(o.drop a).getD 0 0]) := by
  rw [cpy_add, cpy_in k o a (by omega), List.take_of_length_le (by rw [List.length_drop]; omega), cpy, cpy, List.append_assoc]
  congr 3
  simp only [List.getD]
  rw [List.getElem?_append_right (by omega)]
  rw [show a + k - o.length = 0 by omega]
/-- Rows and their places. -/
structure RI (T : List (List Int)) (last out : List Int) (ps : List (Nat × Nat)) (la ln : Nat) : Prop where
  pl : ps.length = T.length
  at_ : ∀ (k : Nat) (t : List Int), T[k]? = some t → ∃ a, ps[k]? = some (a, t.length) ∧ 1 ≤ t.length ∧ a + t.length ≤ out.length ∧ (out.drop a).take t.length = t
  ll : ln = last.length
  lst : 0 < ln → la + ln = out.length ∧ out.drop la = last
  non : last = [] → T = []
  len : LenT T last
theorem RI.start (out : List Int) : RI [] [] out [] 0 0 := ⟨rfl, (fun k t h => by simp at h), rfl, (fun h => absurd h (Nat.lt_irrefl _)), fun _ => rfl, LenT.start⟩
/-- The places behind 'enter'. -/
def psE (ps : List (Nat × Nat)) (la ln : Nat) : List (Nat × Nat) := if 0 < ln ∧ ps.length < 3838 then ps ++ [(la, ln + 1)] else ps
section
variable {T : List (List Int)} {last out x : List Int} {ps : List (Nat × Nat)} {la ln : Nat}
theorem RI.few (h : RI T last out ps la ln) : ps.length ≤ 3838 := by rw [h.pl]; exact h.len.few
theorem psE_len (h : RI T last out ps la ln) : (psE ps la ln).length = T.length + (if 0 < ln ∧ T.length < 3838 then 1 else 0) := by
  unfold psE
  rw [h.pl]
  split
  · rw [List.length_append, h.pl]; rfl
  · exact h.pl
theorem psE_few (h : RI T last out ps la ln) : (psE ps la ln).length ≤ 3838 := by
  rw [psE_len h]
  have := h.len.few
  split <;> omega
theorem getD_take_lt (l : List Int) (h : l ≠ []) (more : List Int) : (l ++ more).getD 0 0 = l.getD 0 0 := by
  cases l with
  | nil => exact absurd rfl h
  | cons a l => rfl
/-- What comes of a code that may be. -/
theorem RI.found (h : RI T last out ps la ln) (c : Nat) (hc : 258 ≤ c) (hx : lzRow T last c = some x) : ∃ k a m : Nat, c = 258 + k ∧ (psE ps la ln)[k]? = some (a, m) ∧ a < out.length ∧ m = x.length ∧ 1 ≤ m ∧ cpy out a m = out ++ x := by
  unfold lzRow at hx
  rw [if_neg (by omega)] at hx
  split at hx
  · cases hx
  · rename_i hn
    have hl0 : last ≠ [] := fun e => hn (.inl e)
    have hln : 0 < ln := by rw [h.ll]; exact List.length_pos_iff.2 hl0
    obtain ⟨h1, h2⟩ := h.lst hln
    split at hx
    · rename_i he
      injection hx with hx
      subst hx
      have hT : T.length < 3838 := by
        rcases Nat.lt_or_ge T.length 3838 with h3 | h3
        · exact h3
        · exact absurd (.inr (.inr ⟨he, by omega⟩)) hn
      refine ⟨T.length, la, ln + 1, by omega, ?_, by omega, by rw [List.length_append, ← h.ll]; rfl, by omega, ?_⟩
      · unfold psE
        rw [if_pos ⟨hln, by rw [h.pl]; exact hT⟩, ← h.pl]
        simp
      · rw [cpy_over ln out la h1 hln, h2]
    · rename_i he
      injection hx with hx
      have hlt : (c - 258 : Nat) < T.length := by
        have : ¬ (258 + T.length : Int) < c := fun e => hn (.inr (.inl e))
        omega
      have hxt : T[c - 258]? = some x := by
        rw [← hx]
        have e : ((c : Int) - 258).toNat = c - 258 := by omega
        rw [e, List.getElem?_eq_getElem hlt]
        simp [List.getD, hlt]
      obtain ⟨a, h3, h4, h5, h6⟩ := h.at_ _ _ hxt
      refine ⟨c - 258, a, x.length, by omega, ?_, by omega, rfl, h4, ?_⟩
      · unfold psE
        split
        · rw [List.getElem?_append_left (by rw [h.pl]; exact hlt)]; exact h3
        · exact h3
      · rw [cpy_in _ _ _ h5, h6]
theorem RI.none_ (h : RI T last out ps la ln) (c : Nat) (hc4 : c < 4096) (hx : lzRow T last c = none) : 256 ≤ c ∧ 258 + (psE ps la ln).length ≤ c ∨ c = 256 ∨ c = 257 := by
  unfold lzRow at hx
  split at hx
  · cases hx
  · rename_i h256
    split at hx
    · rename_i hn
      rw [psE_len h]
      rcases hn with hn | hn | ⟨hn, hn2⟩
      · have hT := h.non hn
        have hln : ln = 0 := by rw [h.ll, hn]; rfl
        rw [hT, hln]
        simp
        omega
      · refine .inl ⟨by omega, ?_⟩
        split <;> omega
      · omega
    · split at hx <;> cases hx
/-- The rows behind a code. -/
theorem RI.next (h : RI T last out ps la ln) (hx0 : x ≠ []) (hl : LenT (lzT T last x) x) : RI (lzT T last x) x (out ++ x) (psE ps la ln) out.length x.length := by
  have hxl : 1 ≤ x.length := List.length_pos_iff.2 hx0
  have hkeep : ∀ a m : Nat, a + m ≤ out.length → ((out ++ x).drop a).take m = (out.drop a).take m := fun a m ha => by
    rw [List.drop_append_of_le_length (by omega), List.take_append_of_le_length (by rw [List.length_drop]; omega)]
  refine ⟨?_, fun k t ht => ?_, rfl, fun _ => ⟨by rw [List.length_append], by simp⟩, fun e => absurd e hx0, hl⟩
  · rw [psE_len h]
    unfold lzT
    by_cases hc : last ≠ [] ∧ 258 + T.length < 4096
    · rw [if_pos hc, if_pos ⟨by rw [h.ll]; exact List.length_pos_iff.2 hc.1, by omega⟩, List.length_append]; rfl
    · rw [if_neg hc, if_neg (fun e => hc ⟨fun e2 => by have := e.1; rw [h.ll, e2] at this; simp at this, by omega⟩), Nat.add_zero]
  · unfold lzT at ht
    by_cases hc : last ≠ [] ∧ 258 + T.length < 4096
    · rw [if_pos hc] at ht
      have hln : 0 < ln := by rw [h.ll]; exact List.length_pos_iff.2 hc.1
      obtain ⟨h1, h2⟩ := h.lst hln
      unfold psE
      rw [if_pos ⟨hln, by rw [h.pl]; omega⟩]
      by_cases hk : k < T.length
      · rw [List.getElem?_append_left hk] at ht
        obtain ⟨a, h3, h4, h5, h6⟩ := h.at_ k t ht
        refine ⟨a, by rw [List.getElem?_append_left (by rw [h.pl]; exact hk)]; exact h3, h4, by rw [List.length_append]; omega, ?_⟩
        rw [hkeep a _ h5]; exact h6
      · rw [List.getElem?_append_right (by omega)] at ht
        have hk2 := (List.getElem?_eq_some_iff.1 ht).1
        simp at hk2
        have hk3 : k = T.length := by omega
        subst hk3
        rw [Nat.sub_self] at ht
        obtain rfl : last ++ [x.getD 0 0] = t := Option.some.inj ht
        have e1 : (last ++ [x.getD 0 0]).length = ln + 1 := by rw [List.length_append, ← h.ll]; rfl
        refine ⟨la, ?_, by rw [e1]; omega, by rw [e1, List.length_append]; omega, ?_⟩
        · rw [← h.pl, e1]; simp
        · rw [e1, List.drop_append_of_le_length (by omega), h2, h.ll, List.take_append]
          rw [List.take_of_length_le (Nat.le_succ _)]
          congr 1
          rw [Nat.add_sub_cancel_left]
          cases x with
          | nil => exact absurd rfl hx0
          | cons y x => rfl
    · rw [if_neg hc] at ht
      have hc2 : ¬ (0 < ln ∧ ps.length < 3838) := fun e => hc ⟨fun e2 => by have := e.1; rw [h.ll, e2] at this; simp at this, by have := e.2; rw [h.pl] at this; omega⟩
      obtain ⟨a, h3, h4, h5, h6⟩ := h.at_ k t ht
      unfold psE
      rw [if_neg hc2]
      refine ⟨a, h3, h4, by rw [List.length_append]; omega, ?_⟩
      rw [hkeep a _ h5]; exact h6
end
end Go.Proofs.Ytpnnejedfccckaa
