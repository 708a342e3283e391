/- Chapter 8, pure: what was written is read as it was. -/
import Derived.Test.YtpnnejedfccckaaLz8
namespace Go.Proofs.Ytpnnejedfccckaa
open Go.RowKit
set_option linter.unusedVariables false
set_option maxRecDepth 100000

section
variable {zs : List Int} {a : Nat} {TE : List (List Int)} {reads : Nat} {first : Bool} {T : List (List Int)} {last : List Int}
/-- The next code: what it is, how long, and that the reader knows it. -/
theorem LzI.code (h : LzI zs a TE reads first T last) (hz : ∀ z ∈ zs, 0 ≤ z ∧ z < 256) (ha : a < zs.length) :
    lzRow T last ((lzBest zs a TE).1 : Int) = some ((zs.drop a).take (lzBest zs a TE).2) ∧ 0 < (lzBest zs a TE).2 ∧ a + (lzBest zs a TE).2 ≤ zs.length ∧ ((lzBest zs a TE).1 < 256 ∨ (258 ≤ (lzBest zs a TE).1 ∧ (lzBest zs a TE).1 < reads + 1 ∧ reads ≤ 4095)) := by
  have hza : 0 ≤ zs.getD a 0 ∧ zs.getD a 0 < 256 := by rw [getD_eq zs a ha]; exact hz _ (List.getElem_mem ha)
  rcases best_is zs a TE with e | ⟨j, t, ht, hs, e⟩
  · rw [e]
    dsimp only
    refine ⟨?_, by omega, by omega, .inl (by omega)⟩
    rw [lzRow, if_pos (by omega), take_one zs a ha, show ((zs.getD a 0).toNat : Int) = zs.getD a 0 by omega]
  · rw [e]
    dsimp only
    have hjl : j < TE.length := (List.getElem?_eq_some_iff.1 ht).1
    have htm : t ∈ TE := List.mem_of_getElem? ht
    have htn : 0 < t.length := List.length_pos_iff.2 (h.rows t htm)
    have hst := stL_take zs a t hs
    have hsl := stL_len zs a t hs
    have hfirst : first = false := by
      cases hf : first with
      | false => rfl
      | true => rw [(h.fst hf).1] at hjl; simp at hjl
    obtain ⟨hl, hTE⟩ := h.nxt hfirst
    have hTE := hTE ha
    have hTL : TE.length = T.length + 1 := by rw [hTE]; simp
    have hfew := h.few
    have hrd := h.rd
    refine ⟨?_, htn, by omega, .inr ⟨by omega, by omega, by omega⟩⟩
    rw [lzRow, if_neg (by omega), if_neg (by rintro (h1 | h1 | h1); exact hl h1; all_goals omega), hst]
    by_cases hj : j = T.length
    · subst hj
      have ht2 : t = last ++ [zs.getD a 0] := by
        rw [hTE] at ht
        simpa using ht.symm
      have hl0 : last.getD 0 0 = zs.getD a 0 := by
        have h1 := getD_take0 zs a t.length htn
        rw [hst, ht2] at h1
        cases last with
        | nil => exact absurd rfl hl
        | cons x l => simpa using h1
      rw [if_pos (by omega), hl0, ht2]
    · rw [if_neg (by omega)]
      congr 1
      have hjT : j < T.length := by omega
      rw [show (((258 + j : Nat) : Int) - 258).toNat = j by omega]
      rw [hTE, List.getElem?_append_left hjT] at ht
      simp [List.getD, ht]
/-- What the reader knows behind it. -/
theorem LzI.table (h : LzI zs a TE reads first T last) (ha : a < zs.length) (n : Nat) (hn : 0 < n) : lzT T last ((zs.drop a).take n) = if first = true then [] else TE := by
  have hlt := h.lt
  rw [lzT, getD_take0 zs a n hn]
  cases hf : first with
  | true =>
    obtain ⟨_, hT, hl⟩ := h.fst hf
    rw [if_neg (by rw [hl]; simp), hT]; rfl
  | false =>
    obtain ⟨hl, hTE⟩ := h.nxt hf
    rw [if_pos ⟨hl, by omega⟩, hTE ha]; rfl
theorem LzI.reads_ (h : LzI zs a TE reads first T last) (ha : a < zs.length) : lzN reads first = 258 + (if first = true then [] else TE).length := by
  have hlt := h.lt
  have hrd := h.rd
  unfold lzN
  cases hf : first with
  | true =>
    obtain ⟨_, hT, hl⟩ := h.fst hf
    rw [if_neg (by simp), hrd, hT]; rfl
  | false =>
    obtain ⟨hl, hTE⟩ := h.nxt hf
    rw [if_pos ⟨rfl, by omega⟩, hTE ha, hrd]; simp; omega
theorem LzI.next (h : LzI zs a TE reads first T last) (ha : a < zs.length) (n : Nat) (hn : 0 < n) (hl : a + n < zs.length) (hf : 258 + (TE.length + 1) < 4096) :
    LzI zs (a + n) (TE ++ [(zs.drop a).take (n + 1)]) (lzN reads first) false (if first = true then [] else TE) ((zs.drop a).take n) := by
  refine ⟨by omega, h.reads_ ha, (fun h => by cases h), fun _ => ⟨?_, fun _ => ?_⟩, ?_, by simp; omega, ?_⟩
  · intro e
    have := congrArg List.length e
    rw [List.length_take, List.length_drop] at this
    simp at this
    omega
  · have e : (zs.drop a).take (n + 1) = (zs.drop a).take n ++ [zs.getD (a + n) 0] := by
      rw [List.take_succ_eq_append_getElem (by rw [List.length_drop]; omega), getD_eq zs (a + n) hl]
      simp
    rw [e]
    cases hf : first with
    | true => rw [(h.fst hf).1]; rfl
    | false => rfl
  · have := h.few
    split
    · simp
    · omega
  · intro t ht
    rcases List.mem_append.1 ht with ht | ht
    · exact h.rows t ht
    · simp only [List.mem_singleton] at ht
      intro e
      rw [ht] at e
      have := congrArg List.length e
      rw [List.length_take, List.length_drop] at this
      simp at this
      omega
theorem LzI.start (zs : List Int) (a : Nat) (ha : a ≤ zs.length) : LzI zs a [] 258 true [] [] := ⟨ha, rfl, fun _ => ⟨rfl, rfl, rfl⟩, (fun h => by cases h), by simp, by simp, fun t h => by cases h⟩
theorem LzI.done (h : LzI zs a TE reads first T last) (ha : a < zs.length) (n : Nat) (hn : 0 < n) (hl : a + n = zs.length) :
    LzI zs (a + n) TE (lzN reads first) false (if first = true then [] else TE) ((zs.drop a).take n) := by
  refine ⟨by omega, h.reads_ ha, (fun h => by cases h), fun _ => ⟨?_, fun h => by omega⟩, ?_, h.few, h.rows⟩
  · intro e
    have := congrArg List.length e
    rw [List.length_take, List.length_drop] at this
    simp at this
    omega
  · have := h.few
    split
    · simp
    · omega
end
/-- One code, read. -/
theorem lzD_code (M : Nat) (zs B P S : List Int) (g : Nat) (T : List (List Int)) (last out x : List Int) (c : Nat) (hS : Says zs B) (hB : B = P ++ (hiB c (wdZ (258 + T.length)) ++ S)) (hc : (c : Int) < 2 ^ wdZ (258 + T.length)) (h6 : c < 256 ∨ 258 ≤ c)
    (hx : lzRow T last c = some x) (hg : 8 * zs.length ≤ P.length + g) (hM : out.length + x.length ≤ M) :
    lzD M zs g P.length T last out = if 8 * zs.length < P.length + wdZ (258 + T.length) then ([], 2) else lzD M zs (g - 1) (P ++ hiB c (wdZ (258 + T.length))).length (lzT T last x) x (out ++ x) := by
  have hw := wdZ_bd (258 + T.length)
  have hh := high_code zs B P S c (wdZ (258 + T.length)) hS hB (by omega) hc (by omega)
  by_cases hs : 8 * zs.length < P.length + wdZ (258 + T.length)
  · rw [if_pos hs] at hh ⊢
    cases g with
    | zero => rw [lzD]
    | succ g => rw [lzD, hh, if_pos (by decide)]
  · rw [if_neg hs] at hh ⊢
    cases g with
    | zero => omega
    | succ g => rw [lzD, hh, if_neg (by omega), if_neg (by omega), if_neg (by omega), hx]; simp only; rw [if_pos hM, List.length_append, hiB_len, Nat.add_sub_cancel]
theorem lzD_many (M : Nat) (zs B P S : List Int) (g : Nat) (T : List (List Int)) (last out x : List Int) (c : Nat) (hS : Says zs B) (hB : B = P ++ (hiB c (wdZ (258 + T.length)) ++ S)) (hc : (c : Int) < 2 ^ wdZ (258 + T.length)) (h6 : c < 256 ∨ 258 ≤ c)
    (hx : lzRow T last c = some x) (hg : 8 * zs.length ≤ P.length + g) (hM : M < out.length + x.length) (hs : ¬ 8 * zs.length < P.length + wdZ (258 + T.length)) : lzD M zs g P.length T last out = ([], 7) := by
  have hw := wdZ_bd (258 + T.length)
  have hh := high_code zs B P S c (wdZ (258 + T.length)) hS hB (by omega) hc (by omega)
  rw [if_neg hs] at hh
  cases g with
  | zero => omega
  | succ g => rw [lzD, hh, if_neg (by omega), if_neg (by omega), if_neg (by omega), hx]; simp only; rw [if_neg (by omega)]
theorem lzD_clear (M : Nat) (zs B P S : List Int) (g : Nat) (T : List (List Int)) (last out : List Int) (hS : Says zs B) (hB : B = P ++ (hiB 256 (wdZ (258 + T.length)) ++ S)) (hg : 8 * zs.length ≤ P.length + g) :
    lzD M zs g P.length T last out = if 8 * zs.length < P.length + wdZ (258 + T.length) then ([], 2) else lzD M zs (g - 1) (P ++ hiB 256 (wdZ (258 + T.length))).length [] [] out := by
  have hw := wdZ_bd (258 + T.length)
  have hp := pow_of12 _ hw
  have hh := high_code zs B P S 256 (wdZ (258 + T.length)) hS hB (by omega) (by omega) (by omega)
  by_cases hs : 8 * zs.length < P.length + wdZ (258 + T.length)
  · rw [if_pos hs] at hh ⊢
    cases g with
    | zero => rw [lzD]
    | succ g => rw [lzD, hh, if_pos (by decide)]
  · rw [if_neg hs] at hh ⊢
    cases g with
    | zero => omega
    | succ g => rw [lzD, hh, if_neg (by omega), if_pos rfl, List.length_append, hiB_len, Nat.add_sub_cancel]
theorem lzD_end (M : Nat) (zs B P S : List Int) (g : Nat) (T : List (List Int)) (last out : List Int) (hS : Says zs B) (hB : B = P ++ (hiB 257 (wdZ (258 + T.length)) ++ S)) (hg : 8 * zs.length ≤ P.length + g) :
    lzD M zs g P.length T last out = if 8 * zs.length < P.length + wdZ (258 + T.length) then ([], 2) else (out, 0) := by
  have hw := wdZ_bd (258 + T.length)
  have hp := pow_of12 _ hw
  have hh := high_code zs B P S 257 (wdZ (258 + T.length)) hS hB (by omega) (by omega) (by omega)
  by_cases hs : 8 * zs.length < P.length + wdZ (258 + T.length)
  · rw [if_pos hs] at hh ⊢
    cases g with
    | zero => rw [lzD]
    | succ g => rw [lzD, hh, if_pos (by decide)]
  · rw [if_neg hs] at hh ⊢
    cases g with
    | zero => omega
    | succ g => rw [lzD, hh, if_neg (by omega), if_neg (by omega), if_pos rfl]
/-- What was written, read: all of it, or cut. -/
theorem lz_go (M : Nat) (b zs B : List Int) (hb : ∀ z ∈ b, 0 ≤ z ∧ z < 256) (hS : Says zs B) (hcut : B.length ≤ 8 * zs.length ∨ b.length ≤ M) :
    ∀ (f g : Nat) (P : List Int) (a : Nat) (TE : List (List Int)) (reads : Nat) (first : Bool) (T : List (List Int)) (last : List Int), LzI b a TE reads first T last → B = P ++ lzB b f a TE reads first → b.length ≤ a + f → 8 * zs.length ≤ P.length + g → a ≤ M →
      lzD M zs g P.length T last (b.take a) = if b.length ≤ M then (if B.length ≤ 8 * zs.length then (b, 0) else ([], 2)) else ([], 7)
  | f, g, P, a, TE, reads, first, T, last, hI, hB, hf, hg, haM => by
    by_cases ha : a < b.length
    · obtain ⟨f, rfl⟩ : ∃ j, f = j + 1 := ⟨f - 1, by omega⟩
      obtain ⟨hrow, hn0, hnl, hcc⟩ := hI.code hb ha
      have htab := hI.table ha _ hn0
      have hrd := hI.rd
      have hnx := hI.next ha _ hn0
      have hdn := hI.done ha _ hn0
      rw [lzB, if_pos ha] at hB
      obtain ⟨⟨c, n⟩, hcn⟩ : ∃ cn, lzBest b a TE = cn := ⟨_, rfl⟩
      rw [hcn] at hrow hn0 hnl hcc htab hB hnx hdn
      dsimp only at hrow hn0 hnl hcc htab hB hnx hdn
      have hpow : (c : Int) < 2 ^ wdZ (258 + T.length) := by
        rw [← hrd]
        exact wd_pow reads c (by omega)
      have hxl : ((b.drop a).take n).length = n := by rw [List.length_take, List.length_drop]; omega
      have hta : (b.take a).length = a := by rw [List.length_take]; omega
      have htk : b.take a ++ (b.drop a).take n = b.take (a + n) := by rw [List.take_add]
      rw [show wdZ reads = wdZ (258 + T.length) by rw [hrd]] at hB
      by_cases hMn : a + n ≤ M
      · rw [lzD_code M zs B P _ g T last (b.take a) _ c hS hB hpow (by omega) hrow hg (by rw [hta, hxl]; exact hMn), htab, htk]
        have hlen := congrArg List.length hB
        rw [List.length_append, List.length_append, hiB_len] at hlen
        by_cases hs : 8 * zs.length < P.length + wdZ (258 + T.length)
        · rw [if_pos hs, if_pos (by omega), if_neg (by omega)]
        · rw [if_neg hs]
          rw [← List.append_assoc] at hB
          have hw := wdZ_bd (258 + T.length)
          have hg2 : 8 * zs.length ≤ (P ++ hiB (c : Int) (wdZ (258 + T.length))).length + (g - 1) := by rw [List.length_append, hiB_len]; omega
          by_cases hmore : a + n < b.length
          · rw [if_pos hmore] at hB
            by_cases hfull : 258 + (TE.length + 1) = 4096
            · rw [if_pos hfull, hI.reads_ ha] at hB
              generalize (if first = true then ([] : List (List Int)) else TE) = T' at hB ⊢
              rw [lzD_clear M zs B _ _ (g - 1) _ _ _ hS hB hg2]
              have hw2 := wdZ_bd (258 + T'.length)
              have hlen2 := congrArg List.length hB
              simp only [List.length_append, hiB_len] at hlen2
              by_cases hs2 : 8 * zs.length < (P ++ hiB (c : Int) (wdZ (258 + T.length))).length + wdZ (258 + T'.length)
              · rw [if_pos hs2]
                rw [List.length_append, hiB_len] at hs2
                rw [if_pos (by omega), if_neg (by omega)]
              · rw [if_neg hs2]
                rw [List.length_append, hiB_len] at hs2
                rw [← List.append_assoc] at hB
                exact lz_go M b zs B hb hS hcut f (g - 1 - 1) _ (a + n) [] 258 true [] [] (LzI.start b (a + n) (by omega)) hB (by omega) (by simp only [List.length_append, hiB_len]; omega) hMn
            · rw [if_neg hfull] at hB
              have hfew := hI.few
              exact lz_go M b zs B hb hS hcut f (g - 1) _ (a + n) _ _ false _ _ (hnx hmore (by omega)) hB (by omega) hg2 hMn
          · rw [if_neg hmore] at hB
            exact lz_go M b zs B hb hS hcut f (g - 1) _ (a + n) _ _ false _ _ (hdn (by omega)) hB (by omega) hg2 hMn
      · have hlen := congrArg List.length hB
        rw [List.length_append, List.length_append, hiB_len] at hlen
        rw [if_neg (by omega)]
        exact lzD_many M zs B P _ g T last (b.take a) _ c hS hB hpow (by omega) hrow hg (by rw [hta, hxl]; omega) (by omega)
    · rw [lzB_out b f a TE reads first (by omega), hI.rd] at hB
      have hle := hI.le
      rw [List.take_of_length_le (by omega), lzD_end M zs B P [] g T last b hS (by rw [List.append_nil]; exact hB) hg]
      have hlen := congrArg List.length hB
      rw [List.length_append, hiB_len] at hlen
      rw [if_pos (show b.length ≤ M by omega)]
      by_cases hs : 8 * zs.length < P.length + wdZ (258 + T.length)
      · rw [if_pos hs, if_neg (by omega)]
      · rw [if_neg hs, if_pos (by omega)]
 termination_by f => f
theorem lz_all (M : Nat) (b zs : List Int) (hb : ∀ z ∈ b, 0 ≤ z ∧ z < 256) (hS : Says zs (lzBits b)) (hcut : (lzBits b).length ≤ 8 * zs.length ∨ b.length ≤ M) :
    lzDec M zs = if b.length ≤ M then (if (lzBits b).length ≤ 8 * zs.length then (b, 0) else ([], 2)) else ([], 7) := by
  have h0 : lzBits b = [] ++ (hiB 256 (wdZ (258 + ([] : List (List Int)).length)) ++ lzB b b.length 0 [] 258 true) := rfl
  have h1 := lzD_clear M zs (lzBits b) [] (lzB b b.length 0 [] 258 true) (8 * zs.length + 1) [] [] [] hS h0 (by simp)
  rw [lzDec, show (0 : Nat) = ([] : List Int).length from rfl, h1]
  have hl : (lzBits b).length = 9 + (lzB b b.length 0 [] 258 true).length := by rw [lzBits, List.length_append, hiB_len]
  have e9 : wdZ (258 + ([] : List (List Int)).length) = 9 := rfl
  rw [e9]
  by_cases hs : 8 * zs.length < ([] : List Int).length + 9
  · rw [if_pos hs]
    rw [List.length_nil] at hs
    by_cases hM : b.length ≤ M
    · rw [if_pos hM]
      by_cases h3 : (lzBits b).length ≤ 8 * zs.length
      · omega
      · rw [if_neg h3]
    · omega
  · rw [if_neg hs]
    have := lz_go M b zs (lzBits b) hb hS hcut b.length (8 * zs.length + 1 - 1) ([] ++ hiB 256 9) 0 [] 258 true [] [] (LzI.start b 0 (by omega)) rfl (by omega) (by rw [List.nil_append, hiB_len]; omega) (by omega)
    rw [List.take_zero] at this
    exact this
theorem lzEnc_len (b : List Int) : (lzEnc b).length = ((lzBits b).length + 7) / 8 := packZ_len _
theorem lzEnc_rng (b : List Int) : ∀ z ∈ lzEnc b, 0 ≤ z ∧ z < 256 := packZ_rng _ (lzBits_bit b)
theorem lz_back (M : Nat) (b more : List Int) (hb : ∀ z ∈ b, 0 ≤ z ∧ z < 256) : lzDec M (lzEnc b ++ more) = if b.length ≤ M then (b, 0) else ([], 7) := by
  have hl : (lzBits b).length ≤ 8 * (lzEnc b ++ more).length := by rw [List.length_append, lzEnc_len]; omega
  rw [lz_all M b (lzEnc b ++ more) hb (says_all _ more (lzBits_bit b)) (.inl hl), if_pos hl]
theorem lz_cut (M : Nat) (b : List Int) (hb : ∀ z ∈ b, 0 ≤ z ∧ z < 256) (hM : b.length ≤ M) (k : Nat) (hk : 8 * k < (lzBits b).length) : lzDec M ((lzEnc b).take k) = ([], 2) := by
  have hS := says_pack (lzBits b) [] (lzBits_bit b) k
  rw [List.append_nil] at hS
  rw [lzEnc, lz_all M b _ hb hS (.inr hM), if_pos hM, if_neg (by rw [List.length_take]; omega)]
end Go.Proofs.Ytpnnejedfccckaa
