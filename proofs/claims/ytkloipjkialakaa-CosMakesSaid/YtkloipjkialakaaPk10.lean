/- Chapter 10: a dictionary's entries: the last ones of each key, by rising keys, are what the document makes entry by entry (pure). Chapter 10: the project's makers. -/
import Derived.Test.YtkloipjkialakaaKl10
import Derived.Test.YtkloipjkialakaaDi10
import Derived.Test.YtkloipjkialakaaAr10
namespace Go.Proofs.Ytkloipjkialakaa
open Go.RowKit Go.Sort
set_option linter.unusedVariables false
set_option maxRecDepth 100000

abbrev KV := ByteArray × Ob
def Ens.toL : Ens → List KV
  | .nil => []
  | .cons s x xs => (s, x) :: xs.toL
def Ens.ofL : List KV → Ens
  | [] => .nil
  | p :: ps => .cons p.1 p.2 (Ens.ofL ps)
theorem Ens.of_to : ∀ l : Ens, Ens.ofL l.toL = l
  | .nil => rfl
  | .cons s x xs => by rw [Ens.toL, Ens.ofL, Ens.of_to xs]
theorem Ens.to_of : ∀ l : List KV, (Ens.ofL l).toL = l
  | [] => rfl
  | p :: ps => by rw [Ens.ofL, Ens.toL, Ens.to_of ps]
theorem Ens.toL_len : ∀ l : Ens, l.toL.length = l.len
  | .nil => rfl
  | .cons s x xs => by rw [Ens.toL, List.length_cons, Ens.toL_len xs, Ens.len]
theorem Ens.ofL_len (l : List KV) : (Ens.ofL l).len = l.length := by rw [← Ens.toL_len, Ens.to_of]
/-- Keys that rise, each once. -/
def SS (l : List KV) : Prop := l.Pairwise (fun a b => ltS a.1 b.1 = true)
/-- The value of a key. -/
def lk : List KV → ByteArray → Option Ob
  | [], _ => none
  | p :: ps, t => if p.1 = t then some p.2 else lk ps t
theorem lk_none : ∀ (l : List KV) (t : ByteArray), (∀ p ∈ l, p.1 ≠ t) → lk l t = none
  | [], t, _ => rfl
  | p :: ps, t, h => by rw [lk, if_neg (h p (by simp)), lk_none ps t (fun q hq => h q (by simp [hq]))]
theorem SS.cons {p : KV} {l : List KV} : SS (p :: l) ↔ (∀ q ∈ l, ltS p.1 q.1 = true) ∧ SS l := by unfold SS; rw [List.pairwise_cons]
theorem lt_ne {s t : ByteArray} (h : ltS s t = true) : s ≠ t := fun e => by rw [e, ltS_irrefl] at h; cases h
theorem ss_ext : ∀ (a b : List KV), SS a → SS b → (∀ t, lk a t = lk b t) → a = b
  | [], [], _, _, _ => rfl
  | [], q :: b, _, _, h => by have := h q.1; rw [lk, lk, if_pos rfl] at this; cases this
  | p :: a, [], _, _, h => by have := h p.1; rw [lk, lk, if_pos rfl] at this; cases this
  | p :: a, q :: b, ha, hb, h => by
    rw [SS.cons] at ha hb
    have hpq : p.1 = q.1 := by
      cases h1 : ltS p.1 q.1 with
      | true =>
        have := h p.1
        rw [lk, if_pos rfl, lk_none (q :: b) p.1 (fun r hr => by
          rcases List.mem_cons.1 hr with rfl | hr
          · exact (lt_ne h1).symm
          · exact (lt_ne (ltS_trans h1 (hb.1 r hr))).symm)] at this
        cases this
      | false =>
        cases h2 : ltS q.1 p.1 with
        | true =>
          have := h q.1
          rw [lk_none (p :: a) q.1 (fun r hr => by
            rcases List.mem_cons.1 hr with rfl | hr
            · exact (lt_ne h2).symm
            · exact (lt_ne (ltS_trans h2 (ha.1 r hr))).symm), lk, if_pos rfl] at this
          cases this
        | false => exact ltS_eq_of h1 h2
    have hx : p.2 = q.2 := by
      have := h p.1
      rw [lk, if_pos rfl, lk, if_pos hpq.symm] at this
      injection this
    have e : p = q := Prod.ext hpq hx
    subst e
    congr 1
    refine ss_ext a b ha.2 hb.2 (fun t => ?_)
    by_cases ht : p.1 = t
    · subst ht
      rw [lk_none a _ (fun r hr => (lt_ne (ha.1 r hr)).symm), lk_none b _ (fun r hr => (lt_ne (hb.1 r hr)).symm)]
    · have := h t
      rw [lk, lk, if_neg ht, if_neg ht] at this
      exact this
theorem leS_lt {s t : ByteArray} : leS s t = true ↔ ltS s t = true ∨ s = t := by
  unfold leS ltS
  rw [Bool.or_eq_true, beq_iff_eq]
  constructor
  · rintro (h | h)
    · exact .inl h
    · exact .inr (toListB_inj h)
  · rintro (h | h)
    · exact .inl h
    · exact .inr (by rw [h])
theorem leS_no {s t : ByteArray} (h : ¬ leS s t = true) : ltS t s = true := by
  cases h1 : ltS t s with
  | true => rfl
  | false =>
    exfalso
    apply h
    rw [leS_lt]
    cases h2 : ltS s t with
    | true => exact .inl rfl
    | false => exact .inr (ltS_eq_of h2 h1)
theorem with_true (s : ByteArray) (x : Ob) : ∀ d : Ens, (withE s x d true).toL = d.toL.filter (fun p => decide (p.1 ≠ s))
  | .nil => by rw [withE, if_pos rfl]; rfl
  | .cons t y ys => by
    rw [withE, if_neg (by simp), Ens.toL, List.filter_cons]
    by_cases h : t = s
    · rw [if_pos h, if_neg (by simp [h]), with_true s x ys]
    · rw [if_neg h, if_pos (by simp [h]), Ens.toL, with_true s x ys]
theorem with_false (s : ByteArray) (x : Ob) : ∀ d : Ens, SS d.toL → (withE s x d false).toL = d.toL.filter (fun p => ltS p.1 s) ++ (s, x) :: d.toL.filter (fun p => ltS s p.1)
  | .nil, _ => by rw [withE, if_neg (by simp)]; rfl
  | .cons t y ys, h => by
    rw [Ens.toL, SS.cons] at h
    rw [withE]
    by_cases hle : leS s t = true
    · rw [if_pos ⟨rfl, hle⟩]
      have hys : ∀ p ∈ ys.toL, ltS s p.1 = true := fun p hp => by
        rcases leS_lt.1 hle with h1 | h1
        · exact ltS_trans h1 (h.1 p hp)
        · rw [h1]; exact h.1 p hp
      have f1 : ys.toL.filter (fun p => ltS p.1 s) = [] := by
        rw [List.filter_eq_nil_iff]; intro p hp; rw [ltS_asymm (hys p hp)]; simp
      have f2 : ys.toL.filter (fun p => ltS s p.1) = ys.toL := by
        rw [List.filter_eq_self]; exact hys
      have f3 : ys.toL.filter (fun p => decide (p.1 ≠ s)) = ys.toL := by
        rw [List.filter_eq_self]; intro p hp; simp; exact (lt_ne (hys p hp)).symm
      by_cases hts : t = s
      · subst hts
        rw [if_pos rfl, Ens.toL, with_true, Ens.toL, List.filter_cons, List.filter_cons, if_neg (by rw [ltS_irrefl]; simp), if_neg (by rw [ltS_irrefl]; simp), f1, f2, f3]; rfl
      · have hlt : ltS s t = true := by
          rcases leS_lt.1 hle with h1 | h1
          · exact h1
          · exact absurd h1.symm hts
        rw [if_neg hts, Ens.toL, Ens.toL, with_true, Ens.toL, List.filter_cons, List.filter_cons, if_neg (by rw [ltS_asymm hlt]; simp), if_pos hlt, f1, f2, f3]; rfl
    · have hlt := leS_no hle
      rw [if_neg (by simp [hle]), if_neg (lt_ne hlt), Ens.toL, with_false s x ys h.2, Ens.toL, List.filter_cons, List.filter_cons, if_pos hlt, if_neg (by rw [ltS_asymm hlt]; simp)]; rfl
theorem lk_app : ∀ (a b : List KV) (t : ByteArray), lk (a ++ b) t = (lk a t).or (lk b t)
  | [], b, t => rfl
  | p :: a, b, t => by
    rw [List.cons_append, lk, lk, lk_app a b t]
    split <;> rfl
theorem lk_filter (f : ByteArray → Bool) : ∀ (l : List KV) (t : ByteArray), lk (l.filter (fun p => f p.1)) t = if f t = true then lk l t else none
  | [], t => by simp [lk]
  | p :: l, t => by
    rw [List.filter_cons]
    by_cases h : f p.1 = true
    · rw [if_pos h, lk, lk_filter f l t, lk]
      by_cases h2 : p.1 = t
      · subst h2; rw [if_pos rfl, if_pos h, if_pos rfl]
      · rw [if_neg h2, if_neg h2]
    · rw [if_neg h, lk_filter f l t, lk]
      by_cases h2 : p.1 = t
      · subst h2; rw [if_neg h, if_neg h]
      · rw [if_neg h2]
theorem SS.filter {l : List KV} (h : SS l) (f : KV → Bool) : SS (l.filter f) := List.Pairwise.filter f h
theorem with_ss (s : ByteArray) (x : Ob) (d : Ens) (p : Bool) (h : SS d.toL) : SS (withE s x d p).toL := by
  cases p with
  | true => rw [with_true]; exact h.filter _
  | false =>
    rw [with_false s x d h]
    unfold SS
    rw [List.pairwise_append, List.pairwise_cons]
    refine ⟨h.filter _, ⟨fun q hq => (List.mem_filter.1 hq).2, h.filter _⟩, fun q hq r hr => ?_⟩
    have h1 := (List.mem_filter.1 hq).2
    rcases List.mem_cons.1 hr with rfl | hr
    · exact h1
    · exact ltS_trans h1 (List.mem_filter.1 hr).2
theorem with_lk (s : ByteArray) (x : Ob) (d : Ens) (p : Bool) (h : SS d.toL) (t : ByteArray) : lk (withE s x d p).toL t = if s = t then (if p = true then none else some x) else lk d.toL t := by
  cases p with
  | true =>
    rw [with_true, show (fun p : KV => decide (p.1 ≠ s)) = (fun p : KV => (fun k => decide (k ≠ s)) p.1) from rfl, lk_filter (fun k => decide (k ≠ s))]
    by_cases h1 : s = t
    · subst h1; simp
    · rw [if_neg h1, if_pos (by simpa using fun e => h1 e.symm)]
  | false =>
    rw [with_false s x d h, lk_app, lk, show (fun p : KV => ltS p.1 s) = (fun p : KV => (fun k => ltS k s) p.1) from rfl, lk_filter (fun k => ltS k s), show (fun p : KV => ltS s p.1) = (fun p : KV => (fun k => ltS s k) p.1) from rfl, lk_filter (fun k => ltS s k)]
    by_cases h1 : s = t
    · subst h1; simp [ltS_irrefl]
    · rw [if_neg h1, if_neg h1]
      cases h2 : ltS t s with
      | true => rw [ltS_asymm h2]; cases lk d.toL t <;> simp
      | false =>
        cases h3 : ltS s t with
        | true => simp
        | false => exact absurd (ltS_eq_of h3 h2) h1
/-- What the last entry of a key says. -/
def lastV (l : List KV) (t : ByteArray) : Option KV := (l.filter (fun p => decide (p.1 = t))).getLast?
theorem dict_ss : ∀ (l acc : Ens), SS acc.toL → SS (dictF l acc).toL
  | .nil, acc, h => h
  | .cons s x xs, acc, h => by rw [dictF]; exact dict_ss xs _ (with_ss s x acc _ h)
theorem lastV_cons (p : KV) (l : List KV) (t : ByteArray) : lastV (p :: l) t = if p.1 = t then some ((lastV l t).getD p) else lastV l t := by
  unfold lastV
  rw [List.filter_cons]
  by_cases h : p.1 = t
  · rw [if_pos (by simpa using h), if_pos h, List.getLast?_cons]
  · rw [if_neg (by simpa using h), if_neg h]
theorem dict_lk : ∀ (l acc : Ens) (t : ByteArray), SS acc.toL → lk (dictF l acc).toL t = match lastV l.toL t with
    | none => lk acc.toL t
    | some p => if p.2.kind = 0 then none else some p.2
  | .nil, acc, t, h => rfl
  | .cons s x xs, acc, t, h => by
    rw [dictF, dict_lk xs _ t (with_ss s x acc _ h), Ens.toL, lastV_cons, with_lk s x acc _ h]
    by_cases h1 : s = t
    · subst h1
      rw [if_pos rfl]
      cases lastV xs.toL s with
      | none => simp
      | some p => simp
    · rw [if_neg h1]; simp only [h1, if_false]
/-- The project's: a row, and those behind it. -/
def lastsR : List Rw → List Rw
  | [] => []
  | [r] => if nullB r.k = true then [] else [r]
  | r :: q :: rs => if r.s = q.s ∨ nullB r.k = true then lastsR (q :: rs) else r :: lastsR (q :: rs)
theorem keep_lasts (rs : List Rw) : ∀ (n i : Nat), rs.length - i = n → keepL (lastB rs) i (rs.drop i) = lastsR (rs.drop i)
  | 0, i, h => by
    rw [List.drop_eq_nil_of_le (by omega)]; rfl
  | n + 1, i, h => by
    have hi : i < rs.length := by omega
    have IH := keep_lasts rs n (i + 1) (by omega)
    rw [List.drop_eq_getElem_cons hi, keepL, IH]
    by_cases h2 : i + 1 < rs.length
    · rw [List.drop_eq_getElem_cons h2, lastsR, lastB_go (List.getElem?_eq_getElem hi) (List.getElem?_eq_getElem h2)]
      cases h9 : nullB (rs[i]'hi).k <;> by_cases he : (rs[i]'hi).s = (rs[i + 1]'h2).s <;> simp [he]
    · rw [List.drop_eq_nil_of_le (by omega), lastsR, lastB_end (List.getElem?_eq_getElem hi) h2]
      cases h9 : nullB (rs[i]'hi).k <;> simp [lastsR, h9]
abbrev prR (r : Rw) : KV := (r.s, r.x)
theorem lastsR_mem : ∀ (rs : List Rw) (r : Rw), r ∈ lastsR rs → r ∈ rs
  | [], r, h => h
  | [q], r, h => by
    rw [lastsR] at h
    split at h
    · cases h
    · exact h
  | q :: p :: rs, r, h => by
    rw [lastsR] at h
    split at h
    · exact List.mem_cons_of_mem _ (lastsR_mem (p :: rs) r h)
    · rcases List.mem_cons.1 h with rfl | h
      · simp
      · exact List.mem_cons_of_mem _ (lastsR_mem (p :: rs) r h)
theorem lastsR_ss : ∀ (rs : List Rw), Srt keyR rs → SS ((lastsR rs).map prR)
  | [], _ => List.Pairwise.nil
  | [q], _ => by
    rw [lastsR]
    split
    · exact List.Pairwise.nil
    · exact List.pairwise_singleton _ _
  | q :: p :: rs, h => by
    rw [Srt.cons] at h
    have IH := lastsR_ss (p :: rs) h.2
    rw [lastsR]
    split
    · exact IH
    · rename_i hn
      rw [List.map_cons, SS.cons]
      refine ⟨fun r hr => ?_, IH⟩
      obtain ⟨r', hr', rfl⟩ := List.mem_map.1 hr
      have hm := lastsR_mem (p :: rs) r' hr'
      have hqp : ltS q.s p.s = true := by
        cases h1 : ltS q.s p.s with
        | true => rfl
        | false => exact absurd (.inl (ltS_eq_of h1 (h.1 p (by simp)))) hn
      rcases List.mem_cons.1 hm with rfl | hm
      · exact hqp
      · exact ltS_lt_le hqp ((Srt.cons.1 h.2).1 r' hm)
theorem lastsR_lk : ∀ (rs : List Rw), Srt keyR rs → ∀ t, lk ((lastsR rs).map prR) t = match (rs.filter (fun r => decide (r.s = t))).getLast? with
    | none => none
    | some r => if nullB r.k = true then none else some r.x
  | [], _, t => rfl
  | [q], _, t => by
    rw [lastsR]
    by_cases h : q.s = t
    · by_cases h2 : nullB q.k = true
      · simp [h, h2, lk]
      · simp [h, h2, lk]
    · by_cases h2 : nullB q.k = true
      · simp [h, h2, lk]
      · simp [h, h2, lk]
  | q :: p :: rs, h, t => by
    have hs := h
    rw [Srt.cons] at h
    have IH := lastsR_lk (p :: rs) h.2 t
    have fy : q.s = t → (q :: p :: rs).filter (fun r => decide (r.s = t)) = q :: (p :: rs).filter (fun r => decide (r.s = t)) := fun hq => by
      rw [List.filter_cons, if_pos (by simpa using hq)]
    have fn : ¬ q.s = t → (q :: p :: rs).filter (fun r => decide (r.s = t)) = (p :: rs).filter (fun r => decide (r.s = t)) := fun hq => by
      rw [List.filter_cons, if_neg (by simpa using hq)]
    by_cases hqp : q.s = p.s
    · rw [lastsR, if_pos (.inl hqp), IH]
      by_cases hq : q.s = t
      · rw [fy hq, List.getLast?_cons]
        have : (p :: rs).filter (fun r => decide (r.s = t)) ≠ [] := fun e => by
          have := List.filter_eq_nil_iff.1 e p (by simp)
          exact this (by simpa using hqp.symm.trans hq)
        cases h3 : ((p :: rs).filter (fun r => decide (r.s = t))).getLast? with
        | none => exact absurd (List.getLast?_eq_none_iff.1 h3) this
        | some r => simp
      · rw [fn hq]
    · have hlt : ltS q.s p.s = true := by
        cases h1 : ltS q.s p.s with
        | true => rfl
        | false => exact absurd (ltS_eq_of h1 (h.1 p (by simp))) hqp
      have hall : ∀ r ∈ p :: rs, ltS q.s r.s = true := fun r hr => by
        rcases List.mem_cons.1 hr with rfl | hr
        · exact hlt
        · exact ltS_lt_le hlt ((Srt.cons.1 h.2).1 r hr)
      by_cases hq : q.s = t
      · subst hq
        have hnil : (p :: rs).filter (fun r => decide (r.s = q.s)) = [] := by
          rw [List.filter_eq_nil_iff]; intro r hr; simp; exact (lt_ne (hall r hr)).symm
        rw [fy rfl, hnil, List.getLast?_singleton]
        rw [hnil] at IH
        rw [lastsR]
        by_cases h2 : nullB q.k = true
        · rw [if_pos (.inr h2), IH]; simp [h2]
        · rw [if_neg (fun e => e.elim hqp h2), List.map_cons, lk, if_pos rfl]; simp [h2]
      · rw [fn hq, lastsR]
        by_cases h2 : nullB q.k = true
        · rw [if_pos (.inr h2), IH]
        · rw [if_neg (fun e => e.elim hqp h2), List.map_cons, lk, if_neg hq, IH]
theorem nullB_kind {k : Int} (h : 0 ≤ k ∧ k ≤ 9) : nullB k = true ↔ k = 0 := by
  unfold nullB
  rw [decide_eq_true_eq]
  obtain ⟨h0, h9⟩ := h
  have : k = 0 ∨ k = 1 ∨ k = 2 ∨ k = 3 ∨ k = 4 ∨ k = 5 ∨ k = 6 ∨ k = 7 ∨ k = 8 ∨ k = 9 := by omega
  rcases this with rfl | rfl | rfl | rfl | rfl | rfl | rfl | rfl | rfl | rfl <;> simp [usesZ]
theorem filter_map_pr (t : ByteArray) : ∀ rs : List Rw, (rs.map prR).filter (fun p => decide (p.1 = t)) = (rs.filter (fun r => decide (r.s = t))).map prR
  | [] => rfl
  | r :: rs => by
    rw [List.map_cons, List.filter_cons, List.filter_cons, filter_map_pr t rs]
    by_cases h : r.s = t
    · rw [if_pos (by simpa using h), if_pos (by simpa using h)]; rfl
    · rw [if_neg (by simpa using h), if_neg (by simpa using h)]
/-- What the project makes of entries is what the document makes of them. -/
theorem lasts_dict (l : Ens) (rs rs' : List Rw) (hl : rs.map prR = l.toL) (hk : ∀ r ∈ rs, r.k = r.x.kind ∧ 0 ≤ r.k ∧ r.k ≤ 9) (hS : Srt keyR rs') (hT : Stb keyR rs rs') : (keepL (lastB rs') 0 rs').map prR = (dictF l .nil).toL := by
  have h0 := keep_lasts rs' _ 0 rfl
  rw [List.drop_zero] at h0
  rw [h0]
  refine ss_ext _ _ (lastsR_ss rs' hS) (dict_ss l .nil List.Pairwise.nil) (fun t => ?_)
  rw [lastsR_lk rs' hS t, dict_lk l .nil t List.Pairwise.nil, ← hl]
  unfold lastV
  rw [filter_map_pr, List.getLast?_map, hT t]
  cases h : (rs.filter (fun a => decide (keyR a = t))).getLast? with
  | none => rfl
  | some r =>
    have hm : r ∈ rs := (List.mem_filter.1 (List.mem_of_getLast? h)).1
    obtain ⟨h1, h2, h3⟩ := hk r hm
    have := nullB_kind ⟨h2, h3⟩
    simp only [Option.map_some]
    by_cases h4 : r.k = 0
    · rw [if_pos (this.2 h4), if_pos (by rw [← h1]; exact h4)]
    · rw [if_neg (fun e => h4 (this.1 e)), if_neg (by rw [← h1]; exact h4)]
/-- A row reads as its object. -/
abbrev RwR (w : World) (S : Nat → Prop) (r : Rw) : Prop := ObR w S r.x (.int .i64 r.k) (.int .i64 r.n) (.slice r.A2 r.m2 r.c2) (.slice r.A3 r.m3 r.c3) (.slice r.A4 r.m4 r.c4)
theorem ens_rows {w : World} {S : Nat → Prop} : ∀ (l : Ens) (g o : Nat), EnsR w S l g o → ∃ rs : List Rw, rs.map prR = l.toL ∧ CellsAt w g o (flatR rs) ∧ ∀ r ∈ rs, RwR w S r
  | .nil, g, o, _ => ⟨[], rfl, (fun j u hj => by simp [flatR] at hj), (fun r hr => by cases hr)⟩
  | .cons s x xs, g, o, h => by
    unfold EnsR at h
    obtain ⟨⟨c0, c1, c2, c3, c4, ks, k0, k1, k2, k3, k4, hx⟩, hr⟩ := h
    obtain ⟨rs, h1, h2, h3⟩ := ens_rows xs g (o + 6) hr
    obtain ⟨k, n, A2, m2, d2, A3, m3, d3, A4, m4, d4, rfl, rfl, rfl, rfl, rfl⟩ := hx.form
    refine ⟨⟨s, x, k, n, A2, m2, d2, A3, m3, d3, A4, m4, d4⟩ :: rs, by rw [List.map_cons, h1, Ens.toL], fun j u hj => ?_, fun r hr => ?_⟩
    · rw [flatR_cons] at hj
      match j, hj with
      | 0, hj => simp [encR] at hj; subst hj; exact ks
      | 1, hj => simp [encR] at hj; subst hj; exact k0
      | 2, hj => simp [encR] at hj; subst hj; exact k1
      | 3, hj => simp [encR] at hj; subst hj; exact k2
      | 4, hj => simp [encR] at hj; subst hj; exact k3
      | 5, hj => simp [encR] at hj; subst hj; exact k4
      | j + 6, hj =>
        have := h2 j u (by simpa [encR] using hj)
        rw [show o + (j + 6) = o + 6 + j by omega]
        exact this
    · rcases List.mem_cons.1 hr with rfl | hr
      · exact hx
      · exact h3 r hr
theorem rows_ens {w : World} {S : Nat → Prop} : ∀ (rs : List Rw) (g o : Nat), CellsAt w g o (flatR rs) → (∀ r ∈ rs, RwR w S r) → EnsR w S (Ens.ofL (rs.map prR)) g o
  | [], g, o, _, _ => by rw [List.map_nil, Ens.ofL]; unfold EnsR; trivial
  | r :: rs, g, o, hc, hr => by
    rw [List.map_cons, Ens.ofL]
    unfold EnsR
    rw [flatR_cons] at hc
    refine ⟨⟨_, _, _, _, _, hc 0 _ rfl, hc 1 _ rfl, hc 2 _ rfl, hc 3 _ rfl, hc 4 _ rfl, hc 5 _ rfl, hr r (by simp)⟩, rows_ens rs g (o + 6) (fun j u hj => ?_) (fun q hq => hr q (by simp [hq]))⟩
    have := hc (j + 6) u (by simpa [encR] using hj)
    rw [show o + (j + 6) = o + 6 + j by omega] at this
    exact this
theorem RwR.kind {w : World} {S : Nat → Prop} {r : Rw} (h : RwR w S r) : r.k = r.x.kind := by
  have := kind_c0 h
  injection this
theorem ensV_rows {w : World} {S : Nat → Prop} {l : Ens} {A : Option Addr} {c : Nat} (h : EnsV w S l A c) (hS : ∀ g, S g → g < w.heap.size) : ∃ rs : List Rw, rs.map prR = l.toL ∧ rs.length = l.len ∧ RowsV w A rs ∧ ∀ r ∈ rs, RwR w S r := by
  rcases Nat.eq_zero_or_pos l.len with h0 | h0
  · cases l with
    | nil => exact ⟨[], rfl, rfl, (fun h => by simp at h), (fun r hr => by cases hr)⟩
    | cons s x xs => simp [Ens.len] at h0
  · obtain ⟨g, o, e, hg, hr⟩ := h.2 h0
    obtain ⟨rs, h1, h2, h3⟩ := ens_rows l g o hr
    have hl : rs.length = l.len := by rw [← Ens.toL_len, ← h1, List.length_map]
    exact ⟨rs, h1, hl, fun _ => ⟨g, o, e, hS g hg, h2⟩, h3⟩
theorem wdE_iff (W : Nat) : ∀ d : Ens, wdE W d ↔ ∀ p ∈ d.toL, wdO W p.2
  | .nil => by unfold wdE; simp [Ens.toL]
  | .cons s x xs => by
    unfold wdE
    rw [wdE_iff W xs, Ens.toL]
    simp only [List.mem_cons, forall_eq_or_imp]
theorem htE_le (n : Nat) : ∀ d : Ens, (∀ p ∈ d.toL, htO p.2 ≤ n) → htE d ≤ n
  | .nil, _ => by rw [htE]; omega
  | .cons s x xs, h => by
    rw [Ens.toL] at h
    have h1 := h (s, x) (by simp)
    have h2 := htE_le n xs (fun p hp => h p (by simp [hp]))
    rw [htE]
    dsimp only at h1
    omega
theorem htE_ge : ∀ (d : Ens) (p : KV), p ∈ d.toL → htO p.2 ≤ htE d
  | .nil, p, h => by simp [Ens.toL] at h
  | .cons s x xs, p, h => by
    rw [Ens.toL] at h
    rw [htE]
    rcases List.mem_cons.1 h with rfl | h
    · dsimp only; omega
    · have := htE_ge xs p h; omega
/-- What lasts leaves. -/
def LasP (rs : List Rw) (w : World) (e : Ending) (w' : World) : Prop := ∃ A c ks rs', e = .returned (.slice A ks.length c) ∧ ks = keepL (lastB rs') 0 rs' ∧ Srt keyR rs' ∧ Stb keyR rs rs' ∧ (ks.length ≤ c ∧ c ≤ 9223372036854775807) ∧ (0 < ks.length → ∃ g, A = some ⟨g, 0, none⟩ ∧ w.heap.size ≤ g ∧ g < w'.heap.size ∧ CellsAt w' g 0 (flatR ks)) ∧ Below w.heap.size w w'
theorem own_rows {w : World} {base n : Nat} {A : Option Addr} {c : Nat} {ks : List Rw} (h : w.ownsRow base 32 6 (.slice A n c) n (flatR ks)) : 0 < n → ∃ g, A = some ⟨g, 0, none⟩ ∧ base ≤ g ∧ g < w.heap.size ∧ CellsAt w g 0 (flatR ks) := fun h0 => by
  obtain ⟨g, e, h1, h2, _, h3⟩ := row_block h h0
  exact ⟨g, e, h1, h2, h3⟩
set_option maxHeartbeats 4000000 in
theorem lastsC (rs : List Rw) (A : Option Addr) (c : Nat) (w : World) (hA : RowsV w A rs) (hlen : rs.length ≤ 1000000000) : Calls Try.prog 44 #[.slice A rs.length c] w (LasP rs w) := by
  have hb1 := (Below.refl w.heap.size w).alloc (Nat.le_refl _) (.cells #[.slice A rs.length c] 25)
  have hn1 := heap_alloc_new w (.cells #[.slice A rs.length c] 25)
  have hs1 : (w.alloc (.cells #[.slice A rs.length c] 25)).heap.size = w.heap.size + 1 := by simp
  obtain ⟨W1, hW1⟩ : ∃ W1, w.alloc (.cells #[.slice A rs.length c] 25) = W1 := ⟨_, rfl⟩
  rw [hW1] at hb1 hn1 hs1
  have HRI := Lib.hid (risingR rs A c W1 (hA.below hb1) hlen)
  have HB1 := Lib.hid hb1
  have HN1 := Lib.hid hn1
  have HS1 := Lib.hid hs1
  have HW1 := Lib.hid hW1
  obtain ⟨N, hN⟩ : ∃ N, rs.length = N := ⟨_, rfl⟩
  have HN := Lib.hid hN
  rw [hN] at HRI HN1 HW1 hlen ⊢
  have q0 : W1.cell? ⟨w.heap.size, 0, none⟩ = some (.slice A N c) := by rw [cell_of_row _ _ 0 _ _ (0, 0) HN1.out]; rfl
  have q1 : W1.frozen? ⟨w.heap.size, 0, none⟩ = false := by have := HN1.out; simp [World.frozen?, this]
  clear hb1 hn1 hs1 hW1 hA hN
  go_enter Try.func44, Try.ntmps44
  go_upto_region 1 with fail
  rw [HW1.out]
  go_upto_region 2 with (go_at_call 58; (with_reducible refine HRI.out.mono ?_); (rintro r W2 ⟨A2, c2, rs', rfl, p1, p2, p3, p4, p5⟩); have HN2 := Lib.hid (blk_keep9 p5 HN1.out); have P1 := Lib.hid p1; have P2 := Lib.hid p2; have P3 := Lib.hid p3; have P4 := Lib.hid p4; have P5 := Lib.hid p5; (have y0 : W2.cell? ⟨w.heap.size, 0, none⟩ = some (.slice A N c) := by rw [cell_of_row _ _ 0 _ _ (0, 0) HN2.out]; rfl); (have y1 : W2.frozen? ⟨w.heap.size, 0, none⟩ = false := by have := HN2.out; simp [World.frozen?, this]); clear q0 q1 p1 p2 p3 p4 p5 HRI)
  have hst : Only w.heap.size W2 (W2.setCell ⟨w.heap.size, 0, none⟩ (.slice A2 rs.length c2)) := (Only.refl _ W2).set_ 0 _
  have hn3 : (W2.setCell ⟨w.heap.size, 0, none⟩ (.slice A2 rs.length c2)).heap[w.heap.size]? = some (.cells #[.slice A2 rs.length c2] 25 (0, 0)) := heap_set W2 w.heap.size 0 _ [.slice A N c] _ HN2.out
  obtain ⟨W3, hW3⟩ : ∃ W3, W2.setCell ⟨w.heap.size, 0, none⟩ (.slice A2 rs.length c2) = W3 := ⟨_, rfl⟩
  rw [hW3] at hst hn3 ⊢
  have hb4 := (Below.refl W3.heap.size W3).alloc (Nat.le_refl _) (.cells #[.int .i64 0] 3)
  have hn4 := heap_alloc_new W3 (.cells #[.int .i64 0] 3)
  have hs4 : (W3.alloc (.cells #[.int .i64 0] 3)).heap.size = W3.heap.size + 1 := by simp
  obtain ⟨W4, hW4⟩ : ∃ W4, W3.alloc (.cells #[.int .i64 0] 3) = W4 := ⟨_, rfl⟩
  rw [hW4] at hb4 hn4 hs4
  have hl := P2.out.len
  have hs2 : W1.heap.size ≤ W2.heap.size := P5.out.size
  have hs3 : W2.heap.size ≤ W3.heap.size := hst.size
  have hs1 := HS1.out
  have hn3' := (hb4.block w.heap.size (by omega)).trans hn3
  have HCS : Hid (∀ g, A2 = some ⟨g, 0, none⟩ → W1.heap.size ≤ g → g < W2.heap.size → CellsAt W2 g 0 (flatR rs') → CellsAt W4 g 0 (flatR rs')) := Lib.hid (fun g _ h1 h2 hc j u hj => ((World.cell?_of_block (a := ⟨g, 0 + j, none⟩) (hb4.block g (by omega))).trans (World.cell?_of_block (a := ⟨g, 0 + j, none⟩) (hst.block g h2 (by omega)))).trans (hc j u hj))
  have HRV : Hid (RowsV W4 A2 rs') := Lib.hid (fun h0 => by
    rw [hl] at h0
    obtain ⟨g, e, h1, h2, h3⟩ := P4.out h0
    exact ⟨g, 0, e, by omega, HCS.out g e h1 h2 h3⟩)
  have heg : ∀ args W, (callFunc 64 args).run Try.prog W = .ok (.enter 64 args) W := enters_of Try.func64 (by kernel_rfl) rfl
  have HKE : Hid (∃ Inv, Calls Try.prog 63 #[.slice A2 rs.length c2, .func (.func 64) #[] #[.pointer (some ⟨W3.heap.size, 0, none⟩), .pointer (some ⟨w.heap.size, 0, none⟩)]] W4 (KepP rs' (lastB rs') Inv W3.heap.size W4)) := Lib.hid (by
    rcases Nat.eq_zero_or_pos rs.length with h0 | h0
    · have h9 := keptC 64 #[.pointer (some ⟨W3.heap.size, 0, none⟩), .pointer (some ⟨w.heap.size, 0, none⟩)] rs' (lastB rs') (fun _ _ => True) W3.heap.size A2 c2 W4 heg (fun i r W hr => by
        have hz : rs' = [] := List.eq_nil_of_length_eq_zero (by rw [hl]; exact h0)
        subst hz; simp at hr) (fun _ _ _ _ _ _ => trivial) trivial HRV.out (by omega) (fun h1 => by rw [hl] at h1; omega) (by rw [hl]; exact P3.out) (by rw [hl, HN.out]; exact hlen)
      rw [hl] at h9
      exact ⟨_, h9⟩
    · obtain ⟨g, e, h1, h2, h3⟩ := P4.out h0
      have h9 := keptC 64 #[.pointer (some ⟨W3.heap.size, 0, none⟩), .pointer (some ⟨w.heap.size, 0, none⟩)] rs' (lastB rs') (LastI rs' W3.heap.size w.heap.size g c2) W3.heap.size A2 c2 W4 heg (lastKeep rs' W3.heap.size w.heap.size g c2 (by omega) (by omega) (by rw [hl]; exact P3.out) (by rw [hl, HN.out]; exact hlen)) (fun i W W' hI hz hk => by
          obtain ⟨i1, i2, i3, i4⟩ := hI
          exact ⟨(hk _ (by omega)).trans i1, (hk _ (by omega)).trans i2, fun j u hj => (World.cell?_of_block (a := ⟨g, 0 + j, none⟩) (hk g (by omega))).trans (i3 j u hj), by omega⟩)
        ⟨hn4, by rw [hl, ← e]; exact hn3', HCS.out g e h1 h2 h3, by omega⟩ HRV.out (by omega) (fun _ g' o e' => by rw [e] at e'; injection e' with e'; injection e' with e'; omega) (by rw [hl]; exact P3.out) (by rw [hl, HN.out]; exact hlen)
      rw [hl] at h9
      exact ⟨_, h9⟩)
  obtain ⟨Inv, hke⟩ := HKE.out
  have HK2 := Lib.hid hke
  have HLO : Hid (Below w.heap.size w W4) := Lib.hid (((HB1.out.trans (P5.out.mono HB1.out.size)).trans (hst.belowB (Nat.le_refl _) (by omega))).trans (hb4.mono (by omega)))
  have HZ3 : Hid (w.heap.size ≤ W3.heap.size ∧ W3.heap.size ≤ W4.heap.size) := Lib.hid ⟨by omega, by omega⟩
  have z0 : W3.cell? ⟨w.heap.size, 0, none⟩ = some (.slice A2 rs.length c2) := by rw [cell_of_row _ _ 0 _ _ (0, 0) hn3]; rfl
  have hlt3 : w.heap.size < W3.heap.size := by omega
  have HW4 := Lib.hid hW4
  clear y0 y1 hst hn3 hW3 hb4 hn4 hs4 hW4 hl hs2 hs3 hs1 hn3' heg hke HKE
  go_upto_region 3 with fail
  rw [HW4.out]
  have u0 : W4.cell? ⟨w.heap.size, 0, none⟩ = some (.slice A2 rs.length c2) := by rw [← HW4.out, World.cell?_alloc_lt _ _ _ hlt3]; exact z0
  clear z0
  go_wp2_with (go_at_call 63; (with_reducible refine HK2.out.mono ?_); (rintro r w5 ⟨A5, c5, rfl, k1, _, k3⟩); have K1 := Lib.hid k1; have K3 := Lib.hid k3; clear k1 k3 HK2)
  go_ret
  exact ⟨A5, c5, _, rs', rfl, rfl, P1.out, P2.out, row_cap K1.out, fun h0 => by
    obtain ⟨g, e, h1, h2, h3⟩ := own_rows K1.out h0
    exact ⟨g, e, by have := HLO.out.size; omega, h2, h3⟩, HLO.out.trans (K3.out.belowB HZ3.out.1 HZ3.out.2)⟩
end Go.Proofs.Ytkloipjkialakaa
