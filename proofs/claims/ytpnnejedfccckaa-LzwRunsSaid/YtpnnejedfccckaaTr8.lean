/- Chapter 8, pure: a table of links finds the longest row. -/
import Derived.Test.YtpnnejedfccckaaMp8
import Derived.Test.YtpnnejedfccckaaLy8
namespace Go.Proofs.Ytpnnejedfccckaa
open Go.RowKit
set_option linter.unusedVariables false
set_option maxRecDepth 100000

/-- The row that a code is. -/
def RowOf (TE : List (List Int)) (r : Nat) (u : List Int) : Prop := (r < 256 ∧ u = [(r : Int)]) ∨ ∃ i, r = 258 + i ∧ TE[i]? = some u
structure Trie (TE : List (List Int)) (F : Nat → Int → Option Nat) : Prop where
  t1 : ∀ r c v, F r c = some v → ∃ j t u, v = 258 + j ∧ TE[j]? = some t ∧ RowOf TE r u ∧ t = u ++ [c]
  t2 : ∀ (j : Nat) (t : List Int), TE[j]? = some t → ∃ r u c, RowOf TE r u ∧ t = u ++ [c] ∧ F r c = some (258 + j)
  nd : ∀ (i j : Nat) (t : List Int), TE[i]? = some t → TE[j]? = some t → i = j
  two : ∀ (j : Nat) (t : List Int), TE[j]? = some t → 2 ≤ t.length
section
variable {TE : List (List Int)} {F : Nat → Int → Option Nat}
theorem Trie.nil : Trie [] (fun _ _ => none) := ⟨(fun _ _ _ h => by cases h), (fun _ _ h => by simp at h), (fun _ _ _ h => by simp at h), (fun _ _ h => by simp at h)⟩
theorem RowOf.mono {r : Nat} {u : List Int} (h : RowOf TE r u) (X : List (List Int)) : RowOf (TE ++ X) r u := by
  rcases h with h | ⟨i, h1, h2⟩
  · exact .inl h
  · refine .inr ⟨i, h1, ?_⟩
    rw [List.getElem?_append_left (List.getElem?_eq_some_iff.1 h2).1]; exact h2
theorem RowOf.ne {r : Nat} {u : List Int} (h : RowOf TE r u) (hT : Trie TE F) : 1 ≤ u.length := by
  rcases h with ⟨_, rfl⟩ | ⟨i, h1, h2⟩
  · simp
  · have := hT.two i u h2; omega
theorem RowOf.le {r : Nat} {u : List Int} (h : RowOf TE r u) : r < 258 + TE.length := by
  rcases h with ⟨h, _⟩ | ⟨i, h1, h2⟩
  · omega
  · have := (List.getElem?_eq_some_iff.1 h2).1; omega
theorem Trie.inj (hT : Trie TE F) {r r' : Nat} {u : List Int} (h : RowOf TE r u) (h' : RowOf TE r' u) : r = r' := by
  rcases h with ⟨_, rfl⟩ | ⟨i, h1, h2⟩
  · rcases h' with ⟨_, e⟩ | ⟨i, h1, h2⟩
    · simp at e; omega
    · have := hT.two i _ h2; simp at this
  · rcases h' with ⟨_, rfl⟩ | ⟨j, h3, h4⟩
    · have := hT.two i _ h2; simp at this
    · rw [h1, h3, hT.nd i j u h2 h4]
theorem snoc_inj {u u' : List Int} {c c' : Int} (h : u ++ [c] = u' ++ [c']) : u = u' ∧ c = c' := by
  have := List.append_inj' h rfl
  exact ⟨this.1, by simpa using this.2⟩
theorem Trie.add (hT : Trie TE F) {r : Nat} {u : List Int} {c : Int} (hr : RowOf TE r u) (hn : F r c = none) : Trie (TE ++ [u ++ [c]]) (updF F r c (258 + TE.length)) := by
  have hnew : ∀ j : Nat, ∀ t : List Int, (TE ++ [u ++ [c]])[j]? = some t → TE[j]? = some t ∨ j = TE.length ∧ t = u ++ [c] := fun j t h => by
    by_cases hj : j < TE.length
    · rw [List.getElem?_append_left hj] at h; exact .inl h
    · rw [List.getElem?_append_right (by omega)] at h
      have h2 := List.getElem?_eq_some_iff.1 h
      have h3 := h2.1
      simp at h3
      refine .inr ⟨by omega, ?_⟩
      rw [show j - TE.length = 0 by omega] at h
      simpa using h.symm
  have hat : (TE ++ [u ++ [c]])[TE.length]? = some (u ++ [c]) := by simp
  have hno : ∀ j : Nat, TE[j]? ≠ some (u ++ [c]) := fun j h => by
    obtain ⟨r', u', c', h1, h2, h3⟩ := hT.t2 j _ h
    obtain ⟨rfl, rfl⟩ := snoc_inj h2
    rw [hT.inj h1 hr, hn] at h3
    cases h3
  refine ⟨fun r' c' v h => ?_, fun j t h => ?_, fun i j t hi hj => ?_, fun j t h => ?_⟩
  · unfold updF at h
    split at h
    · rename_i e
      obtain ⟨rfl, rfl⟩ := e
      injection h with h
      exact ⟨TE.length, _, u, h.symm, hat, hr.mono _, rfl⟩
    · obtain ⟨j, t, u', h1, h2, h3, h4⟩ := hT.t1 r' c' v h
      exact ⟨j, t, u', h1, by rw [List.getElem?_append_left (List.getElem?_eq_some_iff.1 h2).1]; exact h2, h3.mono _, h4⟩
  · rcases hnew j t h with h | ⟨rfl, rfl⟩
    · obtain ⟨r', u', c', h1, h2, h3⟩ := hT.t2 j t h
      refine ⟨r', u', c', h1.mono _, h2, ?_⟩
      unfold updF
      rw [if_neg]
      · exact h3
      · rintro ⟨rfl, rfl⟩
        rw [hn] at h3; cases h3
    · exact ⟨r, u, c, hr.mono _, rfl, by unfold updF; rw [if_pos ⟨rfl, rfl⟩]⟩
  · rcases hnew i t hi with h1 | ⟨h1, h2⟩
    · rcases hnew j t hj with h3 | ⟨h3, h4⟩
      · exact hT.nd i j t h1 h3
      · subst h4; exact absurd h1 (hno i)
    · rcases hnew j t hj with h3 | ⟨h3, h4⟩
      · subst h2; exact absurd h3 (hno j)
      · omega
  · rcases hnew j t h with h1 | ⟨_, rfl⟩
    · exact hT.two j t h1
    · have := hr.ne hT
      rw [List.length_append, List.length_singleton]; omega
theorem Trie.prefix_ (hT : Trie TE F) : ∀ (n j : Nat) (t : List Int), t.length ≤ n → TE[j]? = some t → ∀ m, 2 ≤ m → m ≤ t.length → ∃ i : Nat, TE[i]? = some (t.take m)
  | 0, j, t, hl, h, m, h2, hm => by omega
  | n + 1, j, t, hl, h, m, h2, hm => by
    by_cases e : m = t.length
    · exact ⟨j, by rw [e, List.take_length]; exact h⟩
    · obtain ⟨r, u, c, h1, rfl, h3⟩ := hT.t2 j t h
      rw [List.length_append, List.length_singleton] at hm e hl
      rw [List.take_append_of_le_length (by omega)]
      rcases h1 with ⟨_, rfl⟩ | ⟨i, _, h5⟩
      · simp at hm e; omega
      · exact hT.prefix_ n i u (by omega) h5 m h2 (by omega)
theorem take_next (zs : List Int) (a n : Nat) (h : a + n < zs.length) : (zs.drop a).take (n + 1) = (zs.drop a).take n ++ [zs.getD (a + n) 0] := by
  rw [List.take_succ_eq_append_getElem (by rw [List.length_drop]; omega), getD_eq zs (a + n) h]
  simp
theorem Trie.stop (hT : Trie TE F) {zs : List Int} {a n row : Nat} (hr : RowOf TE row ((zs.drop a).take n)) (h1 : 1 ≤ n) (hl : a + n < zs.length) (hn : F row (zs.getD (a + n) 0) = none) (j : Nat) (t : List Int) (ht : TE[j]? = some t) (hs : stL zs a t = true) : t.length ≤ n := by
  rcases Nat.lt_or_ge n t.length with hlt | hge
  · obtain ⟨i, hi⟩ := hT.prefix_ t.length j t (Nat.le_refl _) ht (n + 1) (by omega) hlt
    have e : t.take (n + 1) = (zs.drop a).take n ++ [zs.getD (a + n) 0] := by
      rw [← take_next zs a n hl, ← stL_take zs a t hs, List.take_take, Nat.min_eq_left (by omega)]
    rw [e] at hi
    obtain ⟨r', u', c', h3, h4, h5⟩ := hT.t2 i _ hi
    obtain ⟨rfl, rfl⟩ := snoc_inj h4
    rw [hT.inj h3 hr, hn] at h5
    cases h5
  · exact hge
theorem lzM_ge (zs : List Int) (a : Nat) : ∀ (R : List (List Int)) (k : Nat) (cn : Nat × Nat), cn.2 ≤ (lzM zs a R k cn).2 ∧ ∀ (j : Nat) (t : List Int), R[j]? = some t → stL zs a t = true → t.length ≤ (lzM zs a R k cn).2
  | [], k, cn => ⟨by rw [lzM]; exact Nat.le_refl _, fun j t h => by simp at h⟩
  | t0 :: R, k, (c, n) => by
    have ih := lzM_ge zs a R (k + 1) (if n < t0.length ∧ stL zs a t0 = true then (258 + k, t0.length) else (c, n))
    rw [lzM]
    have hi : n ≤ (if n < t0.length ∧ stL zs a t0 = true then (258 + k, t0.length) else (c, n)).2 := by
      split
      · rename_i h; dsimp only; omega
      · exact Nat.le_refl _
    refine ⟨Nat.le_trans hi ih.1, fun j t h hs => ?_⟩
    cases j with
    | zero =>
      simp at h
      subst h
      refine Nat.le_trans ?_ ih.1
      split
      · exact Nat.le_refl _
      · rename_i h2
        dsimp only
        rcases Nat.lt_or_ge n t0.length with h3 | h3
        · exact absurd ⟨h3, hs⟩ h2
        · exact h3
    | succ j => exact ih.2 j t (by simpa using h) hs
theorem Trie.best (hT : Trie TE F) {zs : List Int} {a n row : Nat} (ha : a < zs.length) (hz : 0 ≤ zs.getD a 0) (hr : RowOf TE row ((zs.drop a).take n)) (h1 : 1 ≤ n) (hl : a + n ≤ zs.length) (hmax : ∀ (j : Nat) (t : List Int), TE[j]? = some t → stL zs a t = true → t.length ≤ n) :
    lzBest zs a TE = (row, n) := by
  have hge := lzM_ge zs a TE 0 ((zs.getD a 0).toNat, 1)
  have hlen : ((zs.drop a).take n).length = n := by rw [List.length_take, List.length_drop]; omega
  have hn : n ≤ (lzBest zs a TE).2 := by
    rcases hr with ⟨_, e⟩ | ⟨i, _, hi⟩
    · have := congrArg List.length e
      rw [hlen] at this
      simp at this
      have := hge.1
      unfold lzBest
      omega
    · have := hge.2 i _ hi (by unfold stL; rw [hlen]; simp)
      rw [hlen] at this
      exact this
  rcases best_is zs a TE with e | ⟨j, t, ht, hs, e⟩
  · rw [e] at hn ⊢
    obtain rfl : n = 1 := by dsimp only at hn; omega
    rcases hr with ⟨_, e2⟩ | ⟨i, _, hi⟩
    · rw [take_one zs a ha] at e2
      injection e2 with e2
      rw [e2]; rfl
    · have := hT.two i _ hi
      omega
  · have h3 := hmax j t ht hs
    rw [e] at hn ⊢
    dsimp only at hn
    have hn2 : t.length = n := by omega
    have ht2 : t = (zs.drop a).take n := by rw [← hn2, stL_take zs a t hs]
    rw [hn2, hT.inj (.inr ⟨j, rfl, by rw [← ht2]; exact ht⟩) hr]
end
end Go.Proofs.Ytpnnejedfccckaa
