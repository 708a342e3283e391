/- Contracts of functions that the law calls, and what they lean on (a part). -/
import Derived.Test.YtdkmomdioiipjaaCed24
import Derived.Test.YtdkmomdioiipjaaCed26
namespace Go.Proofs.Ytdkmomdioiipjaa
section
open Go.RowKit Go.Sort
set_option linter.unusedVariables false
set_option maxRecDepth 100000
theorem lk_fil (t : ByteArray) : ∀ l : List KV, lk l t = ((l.filter (fun p => decide (p.1 = t))).head?).map (·.2)
  | [] => rfl
  | p :: l => by
    rw [lk, List.filter_cons]
    by_cases h : p.1 = t
    · rw [if_pos h, if_pos (by simpa using h)]; rfl
    · rw [if_neg h, if_neg (by simpa using h), lk_fil t l]
theorem lk_none_fil {t : ByteArray} {l : List KV} (h : lk l t = none) : l.filter (fun p => decide (p.1 = t)) = [] := by
  rw [lk_fil] at h
  cases e : l.filter (fun p => decide (p.1 = t)) with
  | nil => rfl
  | cons p q => rw [e] at h; cases h
theorem SS.one (t : ByteArray) : ∀ l : List KV, SS l → (l.filter (fun p => decide (p.1 = t))).length ≤ 1
  | [], _ => by simp
  | p :: l, h => by
    rw [SS.cons] at h
    rw [List.filter_cons]
    by_cases hp : p.1 = t
    · rw [if_pos (by simpa using hp)]
      have : l.filter (fun p => decide (p.1 = t)) = [] := by
        rw [List.filter_eq_nil_iff]
        intro q hq
        have := lt_ne (h.1 q hq)
        simp
        intro e; exact this (hp.trans e.symm)
      rw [this]; simp
    · rw [if_neg (by simpa using hp)]
      exact SS.one t l h.2
theorem srt_ss : ∀ rs : List Rw, Srt keyR rs → (∀ t, ((rs.map prR).filter (fun p => decide (p.1 = t))).length ≤ 1) → SS (rs.map prR)
  | [], _, _ => List.Pairwise.nil
  | q :: rs, h, h1 => by
    rw [Srt.cons] at h
    rw [List.map_cons, SS.cons]
    refine ⟨fun p hp => ?_, srt_ss rs h.2 (fun t => ?_)⟩
    · obtain ⟨r, hr, rfl⟩ := List.mem_map.1 hp
      cases e : ltS q.s r.s with
      | true => rfl
      | false =>
        exfalso
        have heq : q.s = r.s := ltS_eq_of e (h.1 r hr)
        have h2 := h1 q.s
        rw [List.map_cons, List.filter_cons, if_pos (by simp)] at h2
        have h3 : prR r ∈ (rs.map prR).filter (fun p => decide (p.1 = q.s)) := List.mem_filter.2 ⟨List.mem_map_of_mem hr, by simp [heq]⟩
        have := List.length_pos_of_mem h3
        rw [List.length_cons] at h2
        omega
    · have := h1 t
      rw [List.map_cons, List.filter_cons] at this
      split at this
      · rw [List.length_cons] at this; omega
      · exact this
/-- The keys of entries. -/
def keysB : Ens → List ByteArray
  | .nil => []
  | .cons s _ xs => s :: keysB xs
theorem keysB_len : ∀ l : Ens, (keysB l).length = l.len
  | .nil => rfl
  | .cons s x xs => by rw [keysB, List.length_cons, keysB_len xs, Ens.len]
theorem anyK_cons (s : ByteArray) (ks : List ByteArray) (t : ByteArray) : anyK (s :: ks) t = (decide (s = t) || anyK ks t) := by
  unfold anyK; rw [List.any_cons]
theorem anyK_last (t : ByteArray) : ∀ l : Ens, anyK (keysB l) t = (lastV l.toL t).isSome
  | .nil => rfl
  | .cons s x xs => by
    rw [keysB, anyK_cons, anyK_last t xs, Ens.toL, lastV_cons]
    by_cases h : s = t
    · rw [if_pos h]; simp [h]
    · rw [if_neg h]; simp [h]
/-- Set: without the keys, with the entries of the new dictionary, in order. -/
theorem set_dict (l d : Ens) (R Q rs' : List Rw) (hd : SS d.toL) (hR : R.map prR = d.toL.filter (fun p => !(anyK (keysB l) p.1))) (hQ : Q.map prR = (dictF l .nil).toL) (hS : Srt keyR rs') (hT : Stb keyR (R ++ Q) rs') : rs'.map prR = (dictF l d).toL := by
  have hss : SS (dictF l .nil).toL := dict_ss l .nil List.Pairwise.nil
  have fil : ∀ t, (rs'.map prR).filter (fun p => decide (p.1 = t)) = (d.toL.filter (fun p => !(anyK (keysB l) p.1))).filter (fun p => decide (p.1 = t)) ++ (dictF l .nil).toL.filter (fun p => decide (p.1 = t)) := fun t => by
    rw [filter_map_pr, show rs'.filter (fun r => decide (r.s = t)) = (R ++ Q).filter (fun r => decide (r.s = t)) from hT t, List.filter_append, List.map_append, ← filter_map_pr, ← filter_map_pr, hR, hQ]
  have lkE : ∀ t, lk (rs'.map prR) t = lk (d.toL.filter (fun p => !(anyK (keysB l) p.1)) ++ (dictF l .nil).toL) t := fun t => by
    rw [lk_fil, fil t, ← List.filter_append, ← lk_fil]
  have lkN : ∀ t, anyK (keysB l) t = false → lk (dictF l .nil).toL t = none := fun t ht => by
    rw [dict_lk l .nil t List.Pairwise.nil]
    rw [anyK_last] at ht
    cases e : lastV l.toL t with
    | none => rfl
    | some p => rw [e] at ht; cases ht
  refine ss_ext _ _ (srt_ss rs' hS (fun t => ?_)) (dict_ss l d hd) (fun t => ?_)
  · rw [fil t, List.length_append]
    have h1 := SS.one t _ (hd.filter (fun p => !(anyK (keysB l) p.1)))
    have h2 := SS.one t _ hss
    cases ha : anyK (keysB l) t with
    | true =>
      have : (d.toL.filter (fun p => !(anyK (keysB l) p.1))).filter (fun p => decide (p.1 = t)) = [] := by
        rw [List.filter_eq_nil_iff]
        intro p hp he
        have h3 := (List.mem_filter.1 hp).2
        simp only [decide_eq_true_eq] at he
        rw [he, ha] at h3
        cases h3
      rw [this]; simpa using h2
    | false =>
      rw [lk_none_fil (lkN t ha)]; simpa using h1
  · rw [lkE t, lk_app, show (fun p : KV => !(anyK (keysB l) p.1)) = (fun p : KV => (fun k => !(anyK (keysB l) k)) p.1) from rfl, lk_filter (fun k => !(anyK (keysB l) k)), dict_lk l d t hd, dict_lk l .nil t List.Pairwise.nil]
    cases ha : anyK (keysB l) t with
    | true =>
      rw [if_neg (by simp)]
      have hb := ha
      rw [anyK_last] at hb
      cases e : lastV l.toL t with
      | none => rw [e] at hb; cases hb
      | some p => simp
    | false =>
      rw [if_pos (by simp)]
      have hb := ha
      rw [anyK_last] at hb
      cases e : lastV l.toL t with
      | none => simp [Ens.toL, lk]
      | some p => rw [e] at hb; cases hb
/-- One key more, out of a literal. -/
theorem key_app {w : World} {base : Nat} {v : Value} {ks : List ByteArray} (h : w.ownsRow base 9 1 v ks.length (ks.map Value.string)) (hl : ks.length ≤ 1000000) (hb : base ≤ w.heap.size) (s : ByteArray) :
    ∃ A c w', (Builtin.append_ #[47, 47] 47 #[v, .slice (some ⟨w.heap.size, 0, none⟩) 1 1]).run Try.prog (w.alloc (.cells #[.string s] 9)) = .ok (.slice A (ks.length + 1) c) w' ∧ w'.ownsRow base 9 1 (.slice A (ks.length + 1) c) (ks.length + 1) ((ks ++ [s]).map Value.string) ∧ KeepX v w (.slice A (ks.length + 1) c) w' := by
  obtain ⟨i0, hi, hz0, hz1, hz2⟩ := info_parts (show (Try.prog.info? 9).map (fun i => (i.zero, i.size, i.bytes)) = some (some (.string ⟨#[]⟩), 1, 16) by kernel_rfl)
  have hb1 : Below w.heap.size w (w.alloc (.cells #[.string s] 9)) := (Below.refl _ _).alloc (Nat.le_refl _) _
  have hnw := heap_alloc_new w (.cells #[.string s] 9)
  have h1 := row_sameN h (fun b hb => hb1.block b (row_ltN h b hb).1)
  obtain ⟨v', w', hr, ho, hg, _, hat⟩ := run_append_own_at (P := Try.prog) _ base 47 47 9 i0 _ 1 16 Try.underlying47 hi hz0 hz1 hz2 rfl (by omega) v ks.length _ h1 ⟨w.heap.size, 0, none⟩ 1 1 [.string s] rfl (fun j u hj => by
    have e : (⟨w.heap.size, 0, none⟩ : Addr).add j = ⟨w.heap.size, 0 + j, none⟩ := by unfold Addr.add; split <;> simp_all
    rw [e, cell_of_row _ _ _ _ _ (0, 0) hnw, Nat.zero_add]
    rw [← hj]; simp) (fun u hu => by simp at hu; subst hu; rfl) (by simp only [maxLen]; omega) (by omega) (Nat.le_trans hb hb1.size)
  obtain ⟨A, c, rfl⟩ := own_slice ho
  refine ⟨A, c, w', hr, by simpa using ho, (KeepX.ofBelow hb1).trans ⟨hg.os, hg.tape, hg.output, hg.size, fun k hk hne => hg.block k hk (fun e => hne e.symm), fun b hb => ?_⟩⟩
  rcases hat with h2 | h2
  · exact .inl (by rw [← h2, hb])
  · rw [hb] at h2; injection h2 with h2; exact .inr (by omega)
/-- 'make([]string, 0, n)'. -/
theorem make_keys (n : Nat) (w : World) (hn : n ≤ 1000000) : ∃ W1, (Instr.makeSlice 47 (.int .i64 0) (.int .i64 (n : Int))).run Try.prog w = .ok (.slice (some ⟨w.heap.size, 0, none⟩) 0 n) W1 ∧ W1.ownsRow w.heap.size 9 1 (.slice (some ⟨w.heap.size, 0, none⟩) 0 n) 0 [] ∧ Below w.heap.size w W1 := by
  obtain ⟨i0, hi, hz0, hz1, hz2⟩ := info_parts (show (Try.prog.info? 9).map (fun i => (i.zero, i.size, i.bytes)) = some (some (.string ⟨#[]⟩), 1, 16) by kernel_rfl)
  obtain ⟨w', hr, ho, hg⟩ := run_make_own (P := Try.prog) (w := w) w.heap.size 47 9 i0 _ 1 Try.underlying47 hi hz0 hz1 .i64 .i64 n (by rw [hz2]; omega) (by simp only [maxLen]; omega) (Nat.le_refl _)
  exact ⟨w', hr, ho, ⟨hg.os, hg.tape, hg.output, hg.size, fun k hk => hg.block k hk (by simp)⟩⟩
theorem keys_own {w : World} {base : Nat} {A : Option Addr} {c : Nat} {ks : List ByteArray} (h : w.ownsRow base 9 1 (.slice A ks.length c) ks.length (ks.map Value.string)) : KeysV w A ks := fun h0 => by
  obtain ⟨g, e, h1, h2, _, h3⟩ := row_block h h0
  exact ⟨g, 0, e, h2, fun i t ht => h3 i (.string t) (by rw [List.getElem?_map, ht]; rfl)⟩
theorem keysB_get : ∀ (l : Ens) (i : Nat) (s : ByteArray) (x : Ob), l.get? i = some (s, x) → (keysB l)[i]? = some s
  | .nil, i, s, x, h => by simp [Ens.get?] at h
  | .cons t y ys, 0, s, x, h => by simp [Ens.get?] at h; obtain ⟨rfl, rfl⟩ := h; rfl
  | .cons t y ys, i + 1, s, x, h => by rw [keysB, List.getElem?_cons_succ]; exact keysB_get ys i s x (by simpa [Ens.get?] using h)
/-- Many rows more. -/
theorem rows_many {w : World} {base : Nat} {v : Value} {R Q : List Rw} {A : Option Addr} {c : Nat} (hr : w.ownsRow base 32 6 v R.length (flatR R)) (hQ : RowsV w A Q) (hlen : R.length + Q.length ≤ 1000000000) (hN : base ≤ w.heap.size) :
    ∃ A' c' w', (Builtin.append_ #[25, 25] 25 #[v, .slice A Q.length c]).run Try.prog w = .ok (.slice A' (R.length + Q.length) c') w' ∧ w'.ownsRow base 32 6 (.slice A' (R.length + Q.length) c') (R.length + Q.length) (flatR (R ++ Q)) ∧ KeepX v w (.slice A' (R.length + Q.length) c') w' := by
  obtain ⟨i0, hi, hz0, hz1, hz2⟩ := info_parts infoE
  rcases Nat.eq_zero_or_pos Q.length with h0 | h0
  · have hnil : Q = [] := List.eq_nil_of_length_eq_zero h0
    subst hnil
    rw [List.append_nil]
    cases A with
    | none =>
      obtain ⟨Av, cv, e, _⟩ := row_shapeN hr
      have hrun2 : (Builtin.append_ #[25, 25] 25 #[v, .slice none 0 c]).run Try.prog w = .ok v w := by
        rcases hr.2 with ⟨rfl, hd0⟩ | ⟨g, cap, cur, rfl, _, _, hnc, _⟩
        · simp [Builtin.append_, run_underlying Try.underlying25, sizeOf, typeInfo, hi, Builtin.lenOf, Builtin.firstCells]
        · simp [Builtin.append_, run_underlying Try.underlying25, sizeOf, typeInfo, hi, Builtin.lenOf, Builtin.firstCells, hnc, storeCells]
      subst e
      exact ⟨Av, cv, w, hrun2, hr, KeepX.refl _ _⟩
    | some a =>
      obtain ⟨v', w', hrun, hown, hgr, _, hat⟩ := run_append_own_at (P := Try.prog) w base 25 25 32 i0 _ 6 104 Try.underlying25 hi hz0 hz1 hz2 rfl (by omega) v R.length (flatR R) hr a 0 c [] rfl (fun j u hj => by simp at hj) (fun u hu => by cases hu) (by simp only [maxLen]; omega) (by omega) hN
      obtain ⟨Av, cv, rfl⟩ := own_slice hown
      exact ⟨Av, cv, w', hrun, by simpa using hown, ⟨hgr.os, hgr.tape, hgr.output, hgr.size, fun k hk hne => hgr.block k hk (fun e => hne e.symm), fun b hb => by
        rcases hat with h1 | h1
        · exact .inl (h1.symm.trans hb)
        · have h2 := h1.symm.trans hb; injection h2 with h2; exact .inr (by omega)⟩⟩
  · obtain ⟨g, o, rfl, hg, hat0⟩ := hQ h0
    obtain ⟨v', w', hrun, hown, hgr, _, hat⟩ := run_append_own_at (P := Try.prog) w base 25 25 32 i0 _ 6 104 Try.underlying25 hi hz0 hz1 hz2 rfl (by omega) v R.length (flatR R) hr ⟨g, o, none⟩ Q.length c (flatR Q) (flatR_len Q)
      (fun j u hj => by
        have e : (⟨g, o, none⟩ : Addr).add j = ⟨g, o + j, none⟩ := by unfold Addr.add; split <;> simp_all
        rw [e]; exact hat0 j u hj) (flatR_one Q) (by simp only [maxLen]; omega) (by omega) hN
    obtain ⟨Av, cv, rfl⟩ := own_slice hown
    exact ⟨Av, cv, w', hrun, by rw [flatR_app]; exact hown, ⟨hgr.os, hgr.tape, hgr.output, hgr.size, fun k hk hne => hgr.block k hk (fun e => hne e.symm), fun b hb => by
      rcases hat with h1 | h1
      · exact .inl (by rw [← h1, hb])
      · rw [hb] at h1; injection h1 with h1; exact .inr (by omega)⟩⟩
/-- The rows of what a maker leaves, with all that stands behind them. -/
theorem cap_rows {w : World} {S : Nat → Prop} {base : Nat} {k n : Int} {b : List Int} {lo : Obs} {d : Ens} {c0 c1 c2 c3 c4 : Value} (hx : ObR w S (.mk k n b lo d) c0 c1 c2 c3 c4) (hc : CapD S w c2 c4 (.mk k n b lo d)) (hb : ∀ g, S g → base ≤ g) :
    ∃ R, R.map prR = d.toL ∧ w.ownsRow base 32 6 c4 R.length (flatR R) ∧ (∀ r ∈ R, RwR w (fun g => S g ∧ c4.ownBlock ≠ some g) r) ∧ ∃ A m e, c2 = .slice A m e ∧ BytS w (fun g => S g ∧ c4.ownBlock ≠ some g) A m e b := by
  unfold ObR at hx
  obtain ⟨-, -, -, -, ⟨A2, m2, e2, rfl, hB⟩, -, ⟨A4, e4, rfl, h4, hd⟩⟩ := hx
  rcases hc with hc | ⟨g, cur, m, c, e, hg, hh, h1, h2, h3, hE, A, m', c', e5, h5⟩
  · injection hc with hc1 hc2 hc3
    subst hc1
    have hn : d = .nil := Ens.nil_of hc2
    subst hn
    exact ⟨[], rfl, ⟨rfl, .inl ⟨by rw [hc3]; rfl, rfl⟩⟩, (fun r hr => by cases hr), A2, m2, e2, rfl, hB.keep (fun _ _ => rfl) (fun g hg => ⟨hg, fun e => by cases e⟩)⟩
  · injection e with e1 e3 e4'
    subst e1 e3 e4'
    obtain ⟨R, r1, r2, r3⟩ := ens_rows d g 0 hE
    have hl : R.length = d.len := by rw [← Ens.toL_len, ← r1, List.length_map]
    have ne : ∀ y, (Value.slice (some ⟨g, 0, none⟩) d.len e4).ownBlock ≠ some y ↔ y ≠ g := fun y => by
      simp only [Value.ownBlock, ne_eq, Option.some.injEq]
      exact ⟨fun h e => h e.symm, fun h e => h e.symm⟩
    refine ⟨R, r1, ⟨flatR_len R, .inr ⟨g, e4, cur, by rw [hl], hb g hg, hh, by rw [hl]; exact h1, h2, h3, ?_⟩⟩, fun r hr => ObR.keep (fun _ _ => rfl) (fun y hy => ⟨hy.1, (ne y).2 (Nat.ne_of_gt hy.2)⟩) _ (r3 r hr), A, m', c', e5, h5.keep (fun _ _ => rfl) (fun y hy => ⟨hy.1, (ne y).2 hy.2⟩)⟩
    refine List.ext_getElem? fun j => ?_
    rw [List.getElem?_take]
    split
    · rename_i hj
      obtain ⟨u, hu⟩ : ∃ u, (flatR R)[j]? = some u := ⟨_, List.getElem?_eq_getElem (by rw [flatR_len]; exact hj)⟩
      have := r2 j u hu
      rw [Nat.zero_add, cell_of_row w g j _ _ (0, 0) hh] at this
      rw [hu, ← this]
      simp
    · rename_i hj
      exact (List.getElem?_eq_none (by rw [flatR_len]; omega)).symm
end

section
open Go Go.RowKit Go.Sort
set_option linter.unusedVariables false
set_option maxRecDepth 100000
/-- What Set's last order leaves as it was. -/
structure SK (w W wx : World) (own : Option Nat) : Prop where
  low : Below w.heap.size w wx
  size : W.heap.size ≤ wx.heap.size
  keep : ∀ g, g < W.heap.size → own ≠ some g → wx.heap[g]? = W.heap[g]?
def SC (w : World) (bm : Nat) (wx : World) (g : Nat) : Prop := w.heap.size + 2 ≤ g ∧ g < wx.heap.size ∧ g ≠ bm
def PhB (W wx : World) (v : Value) (E : Ens) : Prop := ∃ x0 x1 x2 x3 A c, v = .agg #[x0, x1, x2, x3, .slice A E.len c] ∧ EnsV wx (fun g => W.heap.size ≤ g ∧ g < wx.heap.size) E A c
def PhC (w : World) (bm : Nat) (wx : World) (v : Value) (R : List Rw) (E : Ens) : Prop := ∃ Q A c, Q.map prR = E.toL ∧ v = .slice A (R ++ Q).length c ∧ RowsV wx A (R ++ Q) ∧ ∀ r ∈ R ++ Q, RwR wx (SC w bm wx) r
def PhD (w : World) (bm : Nat) (wx : World) (v : Value) (D : Ens) : Prop := ∃ A c, v = .slice A D.len c ∧ EnsV wx (SC w bm wx) D A c
structure SetF (w W : World) (bm : Nat) (own : Option Nat) (p0 vD vL : Value) (R : List Rw) (E D : Ens) (L : Nat → Bool) (V : Nat → Value) (wx : World) : Prop where
  a0 : L 0 = true → V 0 = p0
  a1 : L 1 = true → V 1 = vD
  a2 : L 2 = true → V 2 = vL
  a7 : L 7 = true → V 7 = p0
  c4 : L 4 = true → L 3 = true ∧ ∃ x0 x1 x2 x3, V 3 = .agg #[x0, x1, x2, x3, V 4]
  c5 : L 5 = true → L 1 = true ∧ L 4 = true
  c6 : L 6 = true → L 5 = true
  c8 : L 8 = true → L 6 = true
  pA : L 3 = false → Below W.heap.size W wx
  pB : L 3 = true → L 5 = false → Below W.heap.size W wx ∧ PhB W wx (V 3) E
  pC : L 5 = true → L 6 = false → SK w W wx own ∧ PhC w bm wx (V 5) R E
  pD : L 6 = true → L 8 = false → SK w W wx own ∧ PhD w bm wx (V 6) D
  pE : L 8 = true → ∃ wy v, SK w W wy own ∧ PhD w bm wy v D ∧ wx = wy.setCell ⟨bm, 4, none⟩ v
section
variable {w W : World} {bm : Nat} {own : Option Nat} {p0 vD vL : Value} {R : List Rw} {E D : Ens} {L : Nat → Bool} {V : Nat → Value} {wx : World}
theorem tf {b : Bool} (h : b = true) (k : b = false) {P : Prop} : P := by rw [h] at k; cases k
theorem SetF.n5 (f : SetF w W bm own p0 vD vL R E D L V wx) (h : L 3 = false) : L 5 = false := by
  cases e : L 5 with
  | false => rfl
  | true => exact tf (f.c4 (f.c5 e).2).1 h
theorem SetF.n6 (f : SetF w W bm own p0 vD vL R E D L V wx) (h : L 5 = false) : L 6 = false := by
  cases e : L 6 with
  | false => rfl
  | true => exact tf (f.c6 e) h
theorem SetF.n8 (f : SetF w W bm own p0 vD vL R E D L V wx) (h : L 6 = false) : L 8 = false := by
  cases e : L 8 with
  | false => rfl
  | true => exact tf (f.c8 e) h
/-- Ahead of the append nothing that was there has changed. -/
theorem SetF.lowAB (f : SetF w W bm own p0 vD vL R E D L V wx) (h : L 5 = false) : Below W.heap.size W wx := by
  cases e : L 3 with
  | false => exact f.pA e
  | true => exact (f.pB e h).1
theorem SetF.o0 (f : SetF w W bm own p0 vD vL R E D L V wx) : SetF w W bm own p0 vD vL R E D (updF L 0 true) (updF V 0 p0) wx :=
  ⟨fun _ => rfl, f.a1, f.a2, f.a7, f.c4, f.c5, f.c6, f.c8, f.pA, f.pB, f.pC, f.pD, f.pE⟩
theorem SetF.o1 (f : SetF w W bm own p0 vD vL R E D L V wx) : SetF w W bm own p0 vD vL R E D (updF L 1 true) (updF V 1 vD) wx :=
  ⟨f.a0, fun _ => rfl, f.a2, f.a7, f.c4, fun h => ⟨rfl, (f.c5 h).2⟩, f.c6, f.c8, f.pA, f.pB, f.pC, f.pD, f.pE⟩
theorem SetF.o2 (f : SetF w W bm own p0 vD vL R E D L V wx) : SetF w W bm own p0 vD vL R E D (updF L 2 true) (updF V 2 vL) wx :=
  ⟨f.a0, f.a1, fun _ => rfl, f.a7, f.c4, f.c5, f.c6, f.c8, f.pA, f.pB, f.pC, f.pD, f.pE⟩
theorem SetF.o7 (f : SetF w W bm own p0 vD vL R E D L V wx) : SetF w W bm own p0 vD vL R E D (updF L 7 true) (updF V 7 p0) wx :=
  ⟨f.a0, f.a1, f.a2, fun _ => rfl, f.c4, f.c5, f.c6, f.c8, f.pA, f.pB, f.pC, f.pD, f.pE⟩
theorem SetF.o3 (f : SetF w W bm own p0 vD vL R E D L V wx) (hi : L 3 = false) {v : Value} {w' : World} (hb : Below wx.heap.size wx w') (hB : PhB W w' v E) : SetF w W bm own p0 vD vL R E D (updF L 3 true) (updF V 3 v) w' :=
  ⟨f.a0, f.a1, f.a2, f.a7, fun h => tf (f.c4 h).1 hi, f.c5, f.c6, f.c8, fun h => tf (b := true) rfl h, fun _ _ => ⟨(f.pA hi).trans (hb.mono (f.pA hi).size), hB⟩, fun h => tf h (f.n5 hi), fun h => tf h (f.n6 (f.n5 hi)), fun h => tf h (f.n8 (f.n6 (f.n5 hi)))⟩
theorem SetF.o4 (f : SetF w W bm own p0 vD vL R E D L V wx) (l3 : L 3 = true) {v x0 x1 x2 x3 : Value} (hv : V 3 = .agg #[x0, x1, x2, x3, v]) : SetF w W bm own p0 vD vL R E D (updF L 4 true) (updF V 4 v) wx :=
  ⟨f.a0, f.a1, f.a2, f.a7, fun _ => ⟨l3, x0, x1, x2, x3, hv⟩, fun h => ⟨(f.c5 h).1, rfl⟩, f.c6, f.c8, f.pA, f.pB, f.pC, f.pD, f.pE⟩
theorem SetF.o5 (f : SetF w W bm own p0 vD vL R E D L V wx) (hi : L 5 = false) (l1 : L 1 = true) (l4 : L 4 = true) {v : Value} {w' : World} (hs : SK w W w' own) (hC : PhC w bm w' v R E) : SetF w W bm own p0 vD vL R E D (updF L 5 true) (updF V 5 v) w' :=
  ⟨f.a0, f.a1, f.a2, f.a7, f.c4, fun _ => ⟨l1, l4⟩, fun h => rfl, f.c8, fun h => tf (f.c4 l4).1 h, fun _ h => tf (b := true) rfl h, fun _ _ => ⟨hs, hC⟩, fun h => tf h (f.n6 hi), fun h => tf h (f.n8 (f.n6 hi))⟩
theorem SetF.o6 (f : SetF w W bm own p0 vD vL R E D L V wx) (hi : L 6 = false) (l5 : L 5 = true) {v : Value} {w' : World} (hs : SK w W w' own) (hD : PhD w bm w' v D) : SetF w W bm own p0 vD vL R E D (updF L 6 true) (updF V 6 v) w' :=
  ⟨f.a0, f.a1, f.a2, f.a7, f.c4, f.c5, fun _ => l5, fun h => rfl, fun h => tf (f.c4 (f.c5 l5).2).1 h, fun _ h => tf l5 h, fun _ h => tf (b := true) rfl h, fun _ _ => ⟨hs, hD⟩, fun h => tf h (f.n8 hi)⟩
theorem SetF.o8 (f : SetF w W bm own p0 vD vL R E D L V wx) (hi : L 8 = false) (l6 : L 6 = true) {v : Value} (hv : V 6 = v) : SetF w W bm own p0 vD vL R E D (updF L 8 true) (updF V 8 undef) (wx.setCell ⟨bm, 4, none⟩ v) :=
  ⟨f.a0, f.a1, f.a2, f.a7, f.c4, f.c5, f.c6, fun _ => l6, fun h => tf (f.c4 (f.c5 (f.c6 l6)).2).1 h, fun _ h => tf (f.c6 l6) h, fun _ h => tf l6 h, fun _ h => tf (b := true) rfl h, fun _ => ⟨wx, v, (f.pD l6 hi).1, by rw [← hv]; exact (f.pD l6 hi).2, rfl⟩⟩
theorem SetF.start (hb : Below W.heap.size W wx) : SetF w W bm own p0 vD vL R E D (fun _ => false) (fun _ => undef) wx :=
  ⟨nofun, nofun, nofun, nofun, nofun, nofun, nofun, nofun, fun _ => hb, nofun, nofun, nofun, nofun⟩
end
theorem dictF_len0 : ∀ (l acc : Ens), (dictF l acc).len ≤ acc.len + l.len
  | .nil, acc => by rw [dictF]; exact Nat.le_add_right _ _
  | .cons s x xs, acc => by
    rw [dictF, Ens.len]
    have h1 := dictF_len0 xs (withE s x acc (decide (x.kind = 0)))
    have h2 := withE_len s x acc (decide (x.kind = 0))
    omega
set_option maxHeartbeats 8000000 in
theorem pSetG (W : Nat) (k n : Int) (hk78 : k = 7 ∨ k = 8) (b : List Int) (d l : Ens) (AL : Option Addr) (cL : Nat) (S Sl : Nat → Prop) (w : World) (c0 c1 c2 c3 c4 : Value) (hx : ObR w S (.mk k n b .nil d) c0 c1 c2 c3 c4) (hS : ∀ g, S g → g < w.heap.size) (hl : EnsV w Sl l AL cL) (hSl : ∀ g, Sl g → g < w.heap.size)
    (hll : l.len ≤ 1000) (hks : ∀ p ∈ l.toL, p.1.size ≤ maxLen) (hds : ∀ p ∈ d.toL, p.1.size ≤ maxLen) (hdl : d.len ≤ 1000000) (hdS : SS d.toL)
    (hW : wdO W (.mk k n b .nil (dropE (keysB l) d))) (hH : W * htO (.mk k n b .nil (dropE (keysB l) d)) ≤ 1000000000)
    (hk9 : ∀ p ∈ l.toL, 0 ≤ p.2.kind ∧ p.2.kind ≤ 9) (hwl : wdE W l) (hllW : l.len ≤ W) (hHl : W * (1 + htE l) ≤ 1000000000) (hW2 : W ≤ 100000000) :
    Calls Try.prog 30 #[.agg #[c0, c1, c2, c3, c4], .slice AL l.len cL] w (CpP w (.mk k n b .nil (dictF l d))) := by
  have hx0 := hx
  obtain ⟨k', n', A2, m2, d2, A3, m3, d3, A4, m4, d4, rfl, rfl, rfl, rfl, rfl⟩ := hx.form
  have hkk := kind_c0 hx
  have hnn : n' = n := by
    unfold ObR at hx
    have := hx.2.1
    injection this
  injection hkk with _ hkk
  replace hkk : k' = k := hkk
  subst hkk
  subst hnn
  obtain ⟨LL, hLL⟩ : ∃ LL, l.len = LL := ⟨_, rfl⟩
  have hb2 := ((Below.refl w.heap.size w).alloc (Nat.le_refl _) (.cells #[.int .i64 k', .int .i64 n', .slice A2 m2 d2, .slice A3 m3 d3, .slice A4 m4 d4] 27)).alloc (by simp) (.cells #[.int .i64 0, .int .i64 0, .slice none 0 0, .slice none 0 0, .slice none 0 0] 27)
  have hn2 := heap_alloc2_new w (.cells #[.int .i64 k', .int .i64 n', .slice A2 m2 d2, .slice A3 m3 d3, .slice A4 m4 d4] 27) (.cells #[.int .i64 0, .int .i64 0, .slice none 0 0, .slice none 0 0, .slice none 0 0] 27)
  have hn1 : ((w.alloc (.cells #[.int .i64 k', .int .i64 n', .slice A2 m2 d2, .slice A3 m3 d3, .slice A4 m4 d4] 27)).alloc (.cells #[.int .i64 0, .int .i64 0, .slice none 0 0, .slice none 0 0, .slice none 0 0] 27)).heap[w.heap.size]? = some (.cells #[.int .i64 k', .int .i64 n', .slice A2 m2 d2, .slice A3 m3 d3, .slice A4 m4 d4] 27) := by
    rw [heap_alloc_old _ _ (by simp)]; exact heap_alloc_new w _
  obtain ⟨W2, hW2e⟩ : ∃ W2, (w.alloc (.cells #[.int .i64 k', .int .i64 n', .slice A2 m2 d2, .slice A3 m3 d3, .slice A4 m4 d4] 27)).alloc (.cells #[.int .i64 0, .int .i64 0, .slice none 0 0, .slice none 0 0, .slice none 0 0] 27) = W2 := ⟨_, rfl⟩
  have hs2 : W2.heap.size = w.heap.size + 2 := by rw [← hW2e]; simp
  rw [hW2e] at hb2 hn2 hn1
  have hkl : (keysB l).length = LL := by rw [keysB_len, hLL]
  have HX := Lib.hid hx0
  have HL := Lib.hid hl
  have HSL := Lib.hid hSl
  have HLL := Lib.hid hLL
  have HKL := Lib.hid hkl
  have HL1 : Hid (LL ≤ 1000) := Lib.hid (by rw [← hLL]; exact hll)
  have HDR : Hid (∀ (Wx : World) (AK : Option Addr) (cK : Nat), Below w.heap.size w Wx → KeysV Wx AK (keysB l) → Calls Try.prog 32 #[.agg #[.int .i64 k', .int .i64 n', .slice A2 m2 d2, .slice A3 m3 d3, .slice A4 m4 d4], .slice AK LL cK] Wx (CpG Wx (.mk k' n' b .nil (dropE (keysB l) d)))) := Lib.hid (fun Wx AK cK hb hK => by
    have h := pDropG W k' n' hk78 b .nil d (keysB l) AK cK S Wx _ _ _ _ _ (ObR.keep (fun y hy => hb.block y (hS y hy)) (fun _ h => h) _ hx0) (fun y hy => Nat.lt_of_lt_of_le (hS y hy) hb.size) hK (by rw [keysB_len]; omega) (fun t ht => by
      obtain ⟨i, hi⟩ := List.getElem?_of_mem ht
      have hil : i < l.len := by rw [← keysB_len]; exact (List.getElem?_eq_some_iff.1 hi).1
      obtain ⟨s, y, hy⟩ := l.get_some i hil
      have h2 := keysB_get l i s y hy
      rw [hi] at h2
      injection h2 with h2
      subst h2
      exact hks (t, y) (by have := Ens.toL_get l i; rw [hy] at this; exact List.mem_of_getElem? this)) hds (by omega) hW hH
    rw [hkl] at h; exact h)
  have HDI : Hid (∀ (Wx : World), Below w.heap.size w Wx → Calls Try.prog 11 #[.slice AL LL cL] Wx (CpP Wx (.mk 7 0 [] .nil (dictF l .nil)))) := Lib.hid (fun Wx hb => by
    have h := pDictC W l Sl Wx AL cL (hl.keep (fun y hy => hb.block y (hSl y hy)) (fun _ h => h)) (fun y hy => Nat.lt_of_lt_of_le (hSl y hy) hb.size) hk9 hwl hllW hHl hW2
    rw [hLL] at h; exact h)
  have HSD := Lib.hid (fun R Q rs' hR hQ h1 h2 => set_dict l d R Q rs' hdS hR hQ h1 h2)
  have HDL : Hid ((dropE (keysB l) d).len ≤ 1000000 ∧ (dictF l .nil).len ≤ 1000 ∧ (dropE (keysB l) d).toL = d.toL.filter (fun p => !(anyK (keysB l) p.1))) := Lib.hid ⟨by
      have h := List.length_filter_le (fun p : KV => !(anyK (keysB l) p.1)) d.toL
      rw [Ens.toL_len] at h
      unfold dropE
      rw [Ens.ofL_len]
      omega, by
      have := dictF_len0 l .nil
      rw [Ens.len] at this
      omega, by unfold dropE; rw [Ens.to_of]⟩
  have HKY := Lib.hid (keyedC k' (.int .i64 n') (.slice A2 m2 d2) (.slice A3 m3 d3) (.slice A4 m4 d4) hk78 W2)
  have m0 := cell_of_row W2 w.heap.size 0 _ _ (0, 0) hn1
  have m1 := cell_of_row W2 w.heap.size 1 _ _ (0, 0) hn1
  have m2' := cell_of_row W2 w.heap.size 2 _ _ (0, 0) hn1
  have m3' := cell_of_row W2 w.heap.size 3 _ _ (0, 0) hn1
  have m4' := cell_of_row W2 w.heap.size 4 _ _ (0, 0) hn1
  have HB2 := Lib.hid hb2
  have HN1 := Lib.hid hn1
  have HN2 := Lib.hid hn2
  have HS2 := Lib.hid hs2
  have HWE := Lib.hid hW2e
  obtain ⟨DF, hDF⟩ : ∃ DF, dictF l d = DF := ⟨_, rfl⟩
  have HDF := Lib.hid hDF
  rw [hLL, hDF]
  clear hx hx0 hS hl hSl hll hks hds hdl hdS hW hH hk9 hwl hllW hHl hW2 hb2 hn2 hn1 hW2e hkl hs2 hDF
  go_enter Try.func30, Try.ntmps30
  go_upto_region 1 with fail
  rw [HWE.out]
  go_upto_region 3 with (go_at_call 49; refine HKY.out.mono ?_; (rintro r w3 ⟨rfl, hb3⟩); have HB3 := Lib.hid (HB2.out.trans (hb3.mono HB2.out.size)); have HS3 := Lib.hid hb3.size; have HO3 := Lib.hid (blk_keep9 hb3 HN1.out); have HZ3 := Lib.hid (blk_keep9 hb3 HN2.out); clear hb3 m0 m1 m2' m3' m4')
  obtain ⟨w4, hmk, how4, hbw4⟩ := make_keys LL w3 (by have := HL1.out; omega)
  have HO4 := Lib.hid (blk_keep9 hbw4 HO3.out)
  have HZ4 := Lib.hid (blk_keep9 hbw4 HZ3.out)
  have HB4 := Lib.hid (HB3.out.trans (hbw4.mono HB3.out.size))
  have HOW4 : Hid (w4.ownsRow (w.heap.size + 2) 9 1 (.slice (some ⟨w3.heap.size, 0, none⟩) 0 LL) 0 []) := Lib.hid (by
    rcases how4.2 with ⟨h, _⟩ | ⟨g, cap, cur, hv, hb, r⟩
    · cases h
    · exact ⟨how4.1, .inr ⟨g, cap, cur, hv, by have := HS3.out; have := HS2.out; omega, r⟩⟩)
  have HKD : Hid ((some ⟨w3.heap.size, 0, none⟩ : Option Addr) = some ⟨w3.heap.size, 0, none⟩) := Lib.hid rfl
  clear how4 hbw4
  go_wp2_with fail
  go_loopw [5, 19] (fun kv iv wr => ∃ (i cK : Nat) (AK : Option Addr), i ≤ LL ∧ kv = .slice AK i cK ∧ iv = .int .i64 i ∧ Hid (wr.ownsRow (w.heap.size + 2) 9 1 (.slice AK i cK) i (((keysB l).take i).map Value.string)) ∧ Hid (Below w.heap.size w wr) ∧ Hid (wr.heap[w.heap.size]? = some (.cells #[.int .i64 k', .int .i64 n', .slice A2 m2 d2, .slice A3 m3 d3, .slice A4 m4 d4] 27 (0, 0))) ∧ Hid (wr.heap[w.heap.size + 1]? = some (.cells #[.int .i64 0, .int .i64 0, .slice none 0 0, .slice none 0 0, .slice none 0 0] 27 (0, 0)))) (fun _ iv _ => LL - (intOf iv).toNat)
  case atStart => exact ⟨0, LL, some ⟨w3.heap.size, 0, none⟩, Nat.zero_le _, rfl, rfl, HOW4, HB4, HO4, HZ4⟩
  case round =>
    clear hmk
    obtain ⟨i, cK, AK, hi, rfl, rfl, HOW, HBW, HOX, HZX⟩ := hrel
    have hL1 := HL1.out
    by_cases hlt : i < LL
    · have hlz : (i : Int) < (LL : Int) := by omega
      obtain ⟨sy, y, hy⟩ := l.get_some i (by rw [HLL.out]; exact hlt)
      obtain ⟨g, o, eA, hg, hobs⟩ := HL.out.2 (by rw [HLL.out]; omega)
      subst eA
      obtain ⟨e0, e1, e2, e3, e4, ks, q0, q1, q2, q3, q4, hyr⟩ := hobs.get l g o i sy y hy
      have hgw : g < w.heap.size := HSL.out g hg
      obtain ⟨k9, n9, A29, m29, c29, A39, m39, c39, A49, m49, c49, rfl, rfl, rfl, rfl, rfl⟩ := hyr.form
      have e := fun j => World.cell?_of_block (a := ⟨g, j, none⟩) (HBW.out.block g hgw)
      have x0 := (e _).trans ks
      have x1 := (e _).trans q0
      have x2 := (e _).trans q1
      have x3 := (e _).trans q2
      have x4 := (e _).trans q3
      have x5 := (e _).trans q4
      have hkg := keysB_get l i sy y hy
      have HTK : Hid ((keysB l).take (i + 1) = (keysB l).take i ++ [sy]) := Lib.hid (by rw [List.take_add_one, hkg]; rfl)
      have hti : ((keysB l).take i).length = i := by rw [List.length_take, HKL.out]; omega
      have HTI := Lib.hid hti
      have HIL : Hid (i ≤ 1000) := Lib.hid (by omega)
      have hb1 := (Below.refl wr.heap.size wr).alloc (Nat.le_refl _) (.cells #[.string sy, .int .i64 k9, .int .i64 n9, .slice A29 m29 c29, .slice A39 m39 c39, .slice A49 m49 c49] 32)
      have hn1 := heap_alloc_new wr (.cells #[.string sy, .int .i64 k9, .int .i64 n9, .slice A29 m29 c29, .slice A39 m39 c39, .slice A49 m49 c49] 32)
      obtain ⟨W1, hW1⟩ : ∃ W1, wr.alloc (.cells #[.string sy, .int .i64 k9, .int .i64 n9, .slice A29 m29 c29, .slice A39 m39 c39, .slice A49 m49 c49] 32) = W1 := ⟨_, rfl⟩
      rw [hW1] at hb1 hn1
      have y0 := cell_of_row W1 wr.heap.size 0 _ _ (0, 0) hn1
      have HW1 := Lib.hid hW1
      have HBW1 := Lib.hid (HBW.out.trans (hb1.mono HBW.out.size))
      have HOX1 := Lib.hid (blk_keep9 hb1 HOX.out)
      have HZX1 := Lib.hid (blk_keep9 hb1 HZX.out)
      have how1 := row_sameN HOW.out (w' := W1) (fun b hb => hb1.block b (row_ltN HOW.out b hb).1)
      have hHB : w.heap.size + 2 ≤ W1.heap.size := by have := row_lt _ _ _ HZX1.out; omega
      have hap := key_app (base := w.heap.size + 2) (w := W1) (v := .slice AK i cK) (ks := (keysB l).take i) (by rw [hti]; exact how1) (by omega) hHB sy
      rw [hti] at hap
      obtain ⟨A6, c6, w6, hrun, ho6, hk6⟩ := hap
      rw [← HTK.out] at ho6
      have HO6 := Lib.hid ho6
      have HK6 := Lib.hid hk6
      have HOO := Lib.hid (fun b hb => row_ltN how1 b hb)
      clear hyr hobs hy hg ks q0 q1 q2 q3 q4 hkg hti hb1 hn1 hW1 how1 ho6 hk6 e
      go_upto_region 7 with fail
      rw [HW1.out]
      clear x0 x1 x2 x3 x4 x5
      go_wp2_with (at_builtin; refine Lib.wpList_append_run_sl _ rfl (.tmp 23) (.tmp 26) 47 rfl _ _ rfl rfl hrun ?_; clear hrun)
      go_roundw
      case rel =>
        have hlt1 := row_lt _ _ _ HOX1.out
        have hlt2 := row_lt _ _ _ HZX1.out
        have keep : ∀ b, b < w.heap.size + 2 → w6.heap[b]? = W1.heap[b]? := fun b hb => HK6.out.block b (by omega) (fun e => by have := (HOO.out b e).2; omega)
        exact ⟨i + 1, c6, A6, by omega, rfl, by go_num, HO6, Lib.hid ⟨HK6.out.os.trans HBW1.out.os, HK6.out.tape.trans HBW1.out.tape, HK6.out.output.trans HBW1.out.output, Nat.le_trans HBW1.out.size HK6.out.size, fun b hb => (keep b (by omega)).trans (HBW1.out.block b hb)⟩, Lib.hid ((keep _ (by omega)).trans HOX1.out), Lib.hid ((keep _ (by omega)).trans HZX1.out)⟩
      case measure => simp [intOf]; omega
    · obtain rfl : i = LL := by omega
      have htk : (keysB l).take i = keysB l := List.take_of_length_le (by rw [HKL.out]; exact Nat.le_refl _)
      have hown : KeysV wr AK (keysB l) := keys_own (c := cK) (by have := HOW.out; rw [htk] at this; rw [HKL.out]; exact this)
      have HDR2 := Lib.hid (HDR.out wr AK cK HBW.out hown)
      have HWR : Hid (w.heap.size + 2 ≤ wr.heap.size) := Lib.hid (by have := row_lt _ _ _ HZX.out; omega)
      obtain ⟨z0, z1, z2, z3, z4, -⟩ := row5_of HOX.out
      clear htk hown hLL hlt hi hL1 HDR HOW HOW4
      go_upto_region 10 with (go_at_call 32; refine HDR2.out.mono ?_; (rintro r w5 ⟨f0, f1, f2, f3, f4, rfl, hob, hb5, hcd⟩); (obtain ⟨R, r1, r2, r3, B2, m9, e9, rfl, hby⟩ := cap_rows hob hcd (fun g hg => Nat.le_trans HWR.out hg.1)); unfold ObR at hob; (obtain ⟨rfl, rfl, hkr, hnr, -, ⟨A9, c9, rfl, h9, -⟩, ⟨A8, e8, rfl, h8, -⟩⟩ := hob); have HKN := Lib.hid (And.intro hkr (And.intro hnr h9)); have HR1 := Lib.hid r1; have HR2 := Lib.hid r2; have HR3 := Lib.hid r3; have HBY := Lib.hid hby; have HB5 := Lib.hid hb5; have HZ5 := Lib.hid (blk_keep9 hb5 HZX.out); have HM8 := Lib.hid h8; clear hkr hnr h9 r1 r2 r3 hby hb5 hcd h8 HDR2 z0 z1 z2 z3 z4)
      have hb6 := (Below.refl w5.heap.size w5).alloc (Nat.le_refl _) (.cells #[.int .i64 k', .int .i64 n', .slice B2 m9 e9, .slice A9 Obs.nil.len c9, .slice A8 (dropE (keysB l) d).len e8] 27)
      have hn6 := heap_alloc_new w5 (.cells #[.int .i64 k', .int .i64 n', .slice B2 m9 e9, .slice A9 Obs.nil.len c9, .slice A8 (dropE (keysB l) d).len e8] 27)
      obtain ⟨W6, hW6⟩ : ∃ W6, w5.alloc (.cells #[.int .i64 k', .int .i64 n', .slice B2 m9 e9, .slice A9 Obs.nil.len c9, .slice A8 (dropE (keysB l) d).len e8] 27) = W6 := ⟨_, rfl⟩
      have hs6 : W6.heap.size = w5.heap.size + 1 := by rw [← hW6]; simp
      rw [hW6] at hb6 hn6
      rw [hW6]
      obtain ⟨bm, hbm⟩ : ∃ bm, w5.heap.size = bm := ⟨_, rfl⟩
      obtain ⟨vD, hvD⟩ : ∃ vD, Value.slice A8 (dropE (keysB l) d).len e8 = vD := ⟨_, rfl⟩
      rw [hvD] at HR2 HR3 HBY hn6
      have HOWN := Lib.hid (row_sameN HR2.out (w' := W6) (fun b hb => hb6.block b (row_ltN HR2.out b hb).1))
      have HOLT : Hid (∀ b, vD.ownBlock = some b → b < bm ∧ w.heap.size + 2 ≤ b) := Lib.hid (fun b hb => by rw [← hbm]; exact row_ltN HR2.out b hb)
      have HRW : Hid (∀ r ∈ R, RwR W6 (fun g => (w.heap.size + 2 ≤ g ∧ g < bm) ∧ vD.ownBlock ≠ some g) r) := Lib.hid (fun r hr => ObR.keep (fun y hy => hb6.block y hy.1.2) (fun y hy => ⟨⟨Nat.le_trans HWR.out hy.1.1, by rw [← hbm]; exact hy.1.2⟩, hy.2⟩) _ (HR3.out r hr))
      have HBY6 : Hid (BytS W6 (fun g => (w.heap.size + 2 ≤ g ∧ g < bm) ∧ vD.ownBlock ≠ some g) B2 m9 e9 b) := Lib.hid (HBY.out.keep (fun y hy => hb6.block y hy.1.2) (fun y hy => ⟨⟨Nat.le_trans HWR.out hy.1.1, by rw [← hbm]; exact hy.1.2⟩, hy.2⟩))
      have HZ6 := Lib.hid (blk_keep9 hb6 HZ5.out)
      have HBW6 := Lib.hid ((HBW.out.trans (HB5.out.mono HBW.out.size)).trans (hb6.mono (HBW.out.trans (HB5.out.mono HBW.out.size)).size))
      rw [hbm] at hn6 hs6
      have HN6 := Lib.hid hn6
      have HS6 := Lib.hid hs6
      have HBM : Hid (w.heap.size + 2 ≤ bm) := Lib.hid (by rw [← hbm]; exact Nat.le_trans HWR.out HB5.out.size)
      have HRL : Hid (R.length ≤ 1000000) := Lib.hid (by
        have h1 := congrArg List.length HR1.out
        rw [List.length_map, Ens.toL_len] at h1
        have := HDL.out.1
        omega)
      rw [hbm]
      clear hb6 hn6 hW6 hs6 hbm HR2 HR3 HBY HB5 HZ5
      refine wp_region_V (by kernel_rfl) (by kernel_rfl) (by kernel_rfl) (SetF w W6 bm vD.ownBlock (.pointer (some ⟨bm, 4, none⟩)) vD (.slice AL i cL) R (dictF l .nil) DF) (SetF.start (Below.refl _ _).drew) ?_ ?_
      · intro L V wx j o a ho hi hdep hF hA
        have hlt : j < 9 := (List.getElem?_eq_some_iff.1 ho).1
        have hbl : bm < W6.heap.size := by rw [HS6.out]; exact Nat.lt_succ_self _
        obtain rfl | rfl | rfl | rfl | rfl | rfl | rfl | rfl | rfl : j = 0 ∨ j = 1 ∨ j = 2 ∨ j = 3 ∨ j = 4 ∨ j = 5 ∨ j = 6 ∨ j = 7 ∨ j = 8 := by omega
        · cases ho
          have e := hA.ev0 (k := 8) (by kernel_rfl) rfl
          exact wpOp_valueV (v := .pointer (some ⟨bm, 4, none⟩)) (w' := wx) rfl rfl (by go_simp) ⟨_, rfl, hF.o0⟩
        · cases ho
          have l0 := hdep ⟨0, .data⟩ (by simp) rfl
          have e := hA.ev (j := 0) rfl rfl l0
          rw [hF.a0 l0] at e
          have h5 : L 5 = false := by
            cases e5 : L 5 with
            | false => rfl
            | true => exact tf (hF.c5 e5).1 hi
          have mc := cell_of_row wx bm 4 _ _ (0, 0) (((hF.lowAB h5).block _ hbl).trans HN6.out)
          exact wpOp_valueV (v := vD) (w' := wx) rfl rfl (by go_simp) ⟨_, rfl, hF.o1⟩
        · cases ho
          have e := hA.ev0 (k := 1) (by kernel_rfl) rfl
          exact wpOp_valueV (v := .slice AL i cL) (w' := wx) rfl rfl (by go_simp) ⟨_, rfl, hF.o2⟩
        · cases ho
          have l2 := hdep ⟨2, .data⟩ (by simp) rfl
          have e := hA.ev (j := 2) rfl rfl l2
          rw [hF.a2 l2] at e
          have hlow := hF.pA hi
          refine wpOp_enterV (f := 11) (args := #[.slice AL i cL]) rfl rfl (by go_simp) (HDI.out wx (HBW6.out.trans (hlow.mono HBW6.out.size))) ?_
          rintro r w' ⟨x0, x1, x2, x3, x4, rfl, hd, hb⟩
          unfold ObR at hd
          obtain ⟨-, -, -, -, -, -, ⟨A7, c7, rfl, h7, hd7⟩⟩ := hd
          exact ⟨_, rfl, _, rfl, hF.o3 hi hb ⟨x0, x1, x2, x3, A7, c7, rfl, EnsV.keep (w := w') ⟨h7, hd7⟩ (fun _ _ => rfl) (fun g hg => ⟨Nat.le_trans hlow.size hg.1, hg.2⟩)⟩⟩
        · cases ho
          have l3 := hdep ⟨3, .data⟩ (by simp) rfl
          have h5 : L 5 = false := by
            cases e5 : L 5 with
            | false => rfl
            | true => exact tf (hF.c5 e5).2 hi
          obtain ⟨hlow, x0, x1, x2, x3, A7, c7, hv, hev⟩ := hF.pB l3 h5
          have e := hA.ev (j := 3) rfl rfl l3
          rw [hv] at e
          have hfd : (Instr.field 27 (.agg #[x0, x1, x2, x3, .slice A7 (dictF l .nil).len c7]) 4).run Try.prog wx = .ok (.slice A7 (dictF l .nil).len c7) wx := by kernel_rfl
          exact wpOp_valueV (v := .slice A7 (dictF l .nil).len c7) (w' := wx) rfl rfl (by go_simp) ⟨_, rfl, hF.o4 l3 hv⟩
        · cases ho
          have l1 := hdep ⟨1, .data⟩ (by simp) rfl
          have l4 := hdep ⟨4, .data⟩ (by simp) rfl
          obtain ⟨l3, y0, y1, y2, y3, hv4⟩ := hF.c4 l4
          obtain ⟨hlow, x0, x1, x2, x3, A7, c7, hv, hev⟩ := hF.pB l3 hi
          have h4v : V 4 = .slice A7 (dictF l .nil).len c7 := by
            rw [hv] at hv4
            injection hv4 with hv4
            simp only [Array.mk.injEq, List.cons.injEq, and_true] at hv4
            exact hv4.2.2.2.2.symm
          obtain ⟨Q, q1, q2, q3, q4⟩ := ensV_rows hev (fun g hg => hg.2)
          have hrs := row_sameN HOWN.out (w' := wx) (fun b hb => hlow.block b (by have := (HOLT.out b hb).1; omega))
          obtain ⟨A6, c6, w6, hrun, ho6, hk6⟩ := rows_many (c := c7) hrs q3 (by have := HRL.out; have := HDL.out.2.1; omega) (by have := HBW6.out.size; have := hlow.size; have := HBM.out; omega)
          rw [q2] at hrun
          refine wpOp_appendV rfl rfl rfl ((hA.evT (j := 1) rfl rfl l1).trans (hF.a1 l1)) ((hA.evT (j := 4) rfl rfl l4).trans h4v) hrun ⟨_, rfl, hF.o5 hi l1 l4 ?_ ?_⟩
          · refine ⟨⟨hk6.os.trans (hlow.os.trans HBW6.out.os), hk6.tape.trans (hlow.tape.trans HBW6.out.tape), hk6.output.trans (hlow.output.trans HBW6.out.output), Nat.le_trans HBW6.out.size (Nat.le_trans hlow.size hk6.size), fun b hb => ?_⟩, Nat.le_trans hlow.size hk6.size, fun g hg hne => (hk6.block g (by have := hlow.size; omega) hne).trans (hlow.block g hg)⟩
            have h1 := HBW6.out.size
            have h2 := hlow.size
            exact ((hk6.block b (by omega) (fun e => by have := (HOLT.out b e).2; omega)).trans (hlow.block b (by omega))).trans (HBW6.out.block b hb)
          · have h2 := hlow.size
            have h3 := hk6.size
            have h4 := HS6.out
            have h5 := HBM.out
            rw [← List.length_append] at ho6
            rw [← q2, ← List.length_append]
            refine ⟨Q, A6, c6, q1, rfl, fun h0 => ?_, fun r hr => ?_⟩
            · obtain ⟨g, e, g1, g2, g3⟩ := own_rows ho6 h0
              exact ⟨g, 0, e, g2, g3⟩
            · rcases List.mem_append.1 hr with hr | hr
              · exact ObR.keep (fun y hy => (hk6.block y (by have := hy.1.2; omega) hy.2).trans (hlow.block y (by have := hy.1.2; omega))) (fun y hy => ⟨hy.1.1, by have := hy.1.2; omega, by have := hy.1.2; omega⟩) _ (HRW.out r hr)
              · exact ObR.keep (fun y hy => hk6.block y hy.2 (fun e => by have := (HOLT.out y e).1; have := hy.1; omega)) (fun y hy => ⟨by have := hy.1; omega, by have := hy.2; omega, by have := hy.1; omega⟩) _ (q4 r hr)
        · cases ho
          have l5 := hdep ⟨5, .data⟩ (by simp) rfl
          obtain ⟨hsk, Q, A6, c6, q1, hv, hrv, hrw⟩ := hF.pC l5 hi
          have e := hA.ev (j := 5) rfl rfl l5
          rw [hv] at e
          have hq : Q.length ≤ 1000 := by
            have h1 := congrArg List.length q1
            rw [List.length_map, Ens.toL_len] at h1
            have := HDL.out.2.1
            omega
          refine wpOp_enterV (f := 50) (args := #[.slice A6 (R ++ Q).length c6, .func (.func 51) #[] #[]]) rfl rfl (by go_simp) (risingR (R ++ Q) A6 c6 wx hrv (by rw [List.length_append]; have := HRL.out; omega)) ?_
          rintro r w' ⟨A2, c2, rs', rfl, p1, p2, p3, p4, p5⟩
          have hmap := HSD.out R Q rs' (HR1.out.trans HDL.out.2.2) q1 p1 p2
          rw [HDF.out] at hmap
          have hlen : (R ++ Q).length = DF.len := by
            rw [← Ens.toL_len, ← hmap, List.length_map, p2.len]
          have h2 := hsk.size
          have h4 := HS6.out
          have h5 := HBM.out
          refine ⟨_, rfl, _, rfl, hF.o6 hi l5 ⟨hsk.low.trans (p5.mono hsk.low.size), Nat.le_trans hsk.size p5.size, fun g hg hne => (p5.block g (by omega)).trans (hsk.keep g hg hne)⟩ ⟨A2, c2, by rw [hlen], by rw [← hlen]; exact p3, fun h0 => ?_⟩⟩
          obtain ⟨g, e1, g1, g2, g3⟩ := p4 (by rw [hlen]; exact h0)
          refine ⟨g, 0, e1, ⟨by omega, g2, by omega⟩, ?_⟩
          have hr := rows_ens (S := SC w bm w') rs' g 0 g3 (fun r hr => ObR.keep (fun y hy => p5.block y hy.2.1) (fun y hy => ⟨hy.1, Nat.lt_of_lt_of_le hy.2.1 p5.size, hy.2.2⟩) _ (hrw r ((p2.mem r).1 hr)))
          rw [hmap, Ens.of_to] at hr
          exact hr
        · cases ho
          have e := hA.ev0 (k := 8) (by kernel_rfl) rfl
          exact wpOp_valueV (v := .pointer (some ⟨bm, 4, none⟩)) (w' := wx) rfl rfl (by go_simp) ⟨_, rfl, hF.o7⟩
        · cases ho
          have l7 := hdep ⟨7, .data⟩ (by simp) rfl
          have l6 := hdep ⟨6, .data⟩ (by simp) rfl
          have e := hA.ev (j := 7) rfl rfl l7
          have e2 := hA.ev (j := 6) rfl rfl l6
          rw [hF.a7 l7] at e
          obtain ⟨hsk, A6, c6, hv, hev⟩ := hF.pD l6 hi
          rw [hv] at e2
          obtain ⟨y0, y1, y2, y3, y4, y5⟩ := row5_of ((hsk.keep bm hbl (fun e => by have := (HOLT.out bm e).1; omega)).trans HN6.out)
          exact wpOp_skipV rfl rfl (by go_simp) ⟨undef, rfl, hF.o8 hi l6 hv⟩
      · intro L V wx hall hF
        obtain ⟨wy, v, hsk, ⟨A6, c6, rfl, hev⟩, rfl⟩ := hF.pE (hall 8 (by decide))
        simp only [putsF, Act.put, List.setIfInBounds_toArray, List.set_cons_zero, List.set_cons_succ, Nat.zero_add, Nat.reduceAdd]
        have hbl : bm < W6.heap.size := by rw [HS6.out]; exact Nat.lt_succ_self _
        have hrow := heap_set wy bm 4 (.slice A6 DF.len c6) [.int .i64 k', .int .i64 n', .slice B2 m9 e9, .slice A9 Obs.nil.len c9, vD] _ ((hsk.keep bm hbl (fun e => by have := (HOLT.out bm e).1; omega)).trans HN6.out)
        have hset := (Only.refl bm wy).set_ 4 (Value.slice A6 DF.len c6)
        have hsz := hset.size
        have h2 := hsk.size
        have h4 := HS6.out
        have h5 := HBM.out
        have hlo := hsk.low.setCell (p := ⟨bm, 4, none⟩) (by dsimp only; omega) (Value.slice A6 DF.len c6)
        have hzb := (hset.block (w.heap.size + 1) (by omega) (by omega)).trans ((hsk.keep (w.heap.size + 1) (by omega) (fun e => by have := (HOLT.out _ e).2; omega)).trans HZ6.out)
        have hev9 : EnsV (wy.setCell ⟨bm, 4, none⟩ (.slice A6 DF.len c6)) (SC w bm (wy.setCell ⟨bm, 4, none⟩ (.slice A6 DF.len c6))) DF A6 c6 := hev.keep (fun g hg => hset.block g hg.2.1 hg.2.2) (fun g hg => ⟨hg.1, Nat.lt_of_lt_of_le hg.2.1 hsz, hg.2.2⟩)
        have hby9 : BytS (wy.setCell ⟨bm, 4, none⟩ (.slice A6 DF.len c6)) (SC w bm (wy.setCell ⟨bm, 4, none⟩ (.slice A6 DF.len c6))) B2 m9 e9 b := HBY6.out.keep (fun g hg => (hset.block g (by have := hg.1.2; omega) (by have := hg.1.2; omega)).trans (hsk.keep g (by have := hg.1.2; omega) hg.2)) (fun g hg => ⟨hg.1.1, by have := hg.1.2; omega, by have := hg.1.2; omega⟩)
        obtain ⟨W9, hW9⟩ : ∃ W9, wy.setCell ⟨bm, 4, none⟩ (.slice A6 DF.len c6) = W9 := ⟨_, rfl⟩
        rw [hW9] at hrow hset hsz hlo hzb hev9 hby9
        rw [hW9]
        obtain ⟨s0, s1, s2, s3, s4, -⟩ := row5_of hrow
        obtain ⟨r0, r1, r2, r3, r4, r5⟩ := zero_cells hzb
        have HZ9 := Lib.hid hzb
        have HLO9 := Lib.hid hlo
        have HOB9 : Hid (ObR W9 (SC w bm W9) (.mk k' n' b .nil DF) (.int .i64 k') (.int .i64 n') (.slice B2 m9 e9) (.slice A9 Obs.nil.len c9) (.slice A6 DF.len c6)) := Lib.hid (by
          unfold ObR
          exact ⟨rfl, rfl, HKN.out.1, HKN.out.2.1, ⟨B2, m9, e9, rfl, hby9⟩, ⟨A9, c9, rfl, HKN.out.2.2, fun h0 => by simp [Obs.len] at h0⟩, ⟨A6, c6, rfl, hev9.1, hev9.2⟩⟩)
        clear hset hsz h2 h4 h5 hlo hzb hev9 hby9 hrow hW9 hev hsk hF hall hbl
        go_wp2_with fail
        refine bodyPost_ret (results_cell_row rfl _ _ (w.heap.size + 1) 27 _ (0, 0) _ rfl (set5_row HZ9.out) Try.underlying27 rfl (by kernel_rfl)) rfl ?_
        exact ⟨_, _, _, _, _, rfl, ObR.keep (fun y hy => heap_set5 (by have := hy.1; omega)) (fun y hy => ⟨by have := hy.1; omega, by rw [size_set5]; exact hy.2.1⟩) _ HOB9.out, below_set5 HLO9.out (Nat.le_succ _)⟩
end

section
open Go.RowKit Go.Sort
set_option linter.unusedVariables false
set_option maxRecDepth 100000
def nulD : Ob := .mk 0 0 [] .nil .nil
theorem okO_nulD : okO nulD := by
  unfold nulD okO
  exact ⟨by simp, by simp [Obs.len], by simp [Ens.len], by unfold okL; trivial, by unfold okE; trivial⟩
/-- The entries without these keys, as the document takes them away. -/
def dropF : List ByteArray → Ens → Ens
  | [], d => d
  | t :: ts, d => dropF ts (withE t nulD d true)
def SD (lo bo : Nat) (W : World) (y : Nat) : Prop := lo ≤ y ∧ y < W.heap.size ∧ y ≠ bo
set_option maxHeartbeats 4000000 in
theorem rDropG (kk n : Int) (hk78 : kk = 7 ∨ kk = 8) (b : List Int) (l : Obs) (d : Ens) (ks : List ByteArray) (AK : Option Addr) (cK : Nat) (S : Nat → Prop) (w : World) (c0 c1 c2 c3 c4 : Value) (hx : ObR w S (.mk kk n b l d) c0 c1 c2 c3 c4) (hS : ∀ g, S g → g < w.heap.size)
    (hK : KeysV w AK ks) (hkl : ks.length ≤ 1000) (hok : okO (.mk kk n b l d)) (hdl : d.len ≤ 90000000) :
    Calls Try.prog 33 #[.agg #[c0, c1, c2, c3, c4], .slice AK ks.length cK] w (CpP w (.mk kk n b l (dropF ks d))) := by
  have hx0 := hx
  obtain ⟨k, nn, A2, m2, d2, A3, m3, d3, A4, m4, d4, rfl, rfl, rfl, rfl, rfl⟩ := hx.form
  have hk7 : kk = k := Eq.symm (by unfold ObR at hx; have := hx.1; injection this)
  subst hk7
  have hb1 := (Below.refl w.heap.size w).alloc (Nat.le_refl _) (.cells #[.int .i64 kk, .int .i64 nn, .slice A2 m2 d2, .slice A3 m3 d3, .slice A4 m4 d4] 27)
  have hn1 := heap_alloc_new w (.cells #[.int .i64 kk, .int .i64 nn, .slice A2 m2 d2, .slice A3 m3 d3, .slice A4 m4 d4] 27)
  obtain ⟨W1, hW1⟩ : ∃ W1, w.alloc (.cells #[.int .i64 kk, .int .i64 nn, .slice A2 m2 d2, .slice A3 m3 d3, .slice A4 m4 d4] 27) = W1 := ⟨_, rfl⟩
  have hs1 : W1.heap.size = w.heap.size + 1 := by rw [← hW1]; simp
  rw [hW1] at hb1 hn1
  have hb0 := (Below.refl W1.heap.size W1).alloc (Nat.le_refl _) (.cells #[.int .i64 0, .int .i64 0, .slice none 0 0, .slice none 0 0, .slice none 0 0] 27)
  have hn0 := heap_alloc_new W1 (.cells #[.int .i64 0, .int .i64 0, .slice none 0 0, .slice none 0 0, .slice none 0 0] 27)
  obtain ⟨W0, hW0⟩ : ∃ W0, W1.alloc (.cells #[.int .i64 0, .int .i64 0, .slice none 0 0, .slice none 0 0, .slice none 0 0] 27) = W0 := ⟨_, rfl⟩
  rw [hW0] at hb0 hn0
  rw [hs1] at hn0
  have hbx := (hb0.block _ (row_lt _ _ _ hn1)).trans hn1
  have hbw := hb1.trans (hb0.mono hb1.size)
  have HCY := Lib.hid (copyC _ (.mk kk n b l d) (Nat.le_refl _) hok S W0 _ _ _ _ _ (ObR.keep (fun y hy => hbw.block y (hS y hy)) (fun _ h => h) _ hx0) (fun y hy => Nat.lt_of_lt_of_le (hS y hy) hbw.size))
  have HBW := Lib.hid hbw
  have HBX := Lib.hid hbx
  have HRZ := Lib.hid hn0
  have HW1 := Lib.hid hW1
  have HW0 := Lib.hid hW0
  have HKV := Lib.hid hK
  have HDL := Lib.hid hdl
  have hhs := fun W' => hasC kk (.int .i64 nn) (.slice A2 m2 d2) (.slice A3 m3 d3) (.slice A4 m4 d4) W'
  simp only [decide_eq_true hk78] at hhs
  have HHS := Lib.hid hhs
  have q0 := cell_of_row W0 w.heap.size 0 _ _ (0, 0) hbx
  have q1 := cell_of_row W0 w.heap.size 1 _ _ (0, 0) hbx
  have q2 := cell_of_row W0 w.heap.size 2 _ _ (0, 0) hbx
  have q3 := cell_of_row W0 w.heap.size 3 _ _ (0, 0) hbx
  have q4 := cell_of_row W0 w.heap.size 4 _ _ (0, 0) hbx
  have hz0 : w.heap.size + 2 ≤ W0.heap.size := by have := row_lt _ _ _ hn0; omega
  have HZ0 := Lib.hid hz0
  obtain ⟨N, hN⟩ : ∃ N, ks.length = N := ⟨_, rfl⟩
  have HN := Lib.hid hN
  have HNB : Hid (N ≤ 1000) := Lib.hid (by omega)
  obtain ⟨R, hR⟩ : ∃ R, dropF ks d = R := ⟨_, rfl⟩
  have HR := Lib.hid hR
  rw [hN, hR]
  clear hhs hk78 hx hx0 hb1 hn1 hW1 hs1 hb0 hn0 hW0 hbx hbw hK hkl hok hdl hS hz0 hN hR
  go_enter Try.func33, Try.ntmps33
  go_upto_region 1 with fail
  rw [HW1.out, HW0.out]
  go_upto_region 2 with (first
    | (go_at_call 29; refine HCY.out.mono ?_; (rintro r w2 ⟨e0, e1, e2, e3, e4, hrr, hob, hb2⟩); subst hrr; obtain ⟨k5, n5, B2, l2, f2, B3, l3, f3, B4, l4, f4, rfl, rfl, rfl, rfl, rfl⟩ := hob.form; have HOB := Lib.hid hob; have HB2 := Lib.hid hb2; clear hob hb2))
  have hk5 : kk = k5 := Eq.symm (by have hh := HOB.out; unfold ObR at hh; have := hh.1; injection this)
  subst hk5
  have hb3 := (Below.refl w2.heap.size w2).alloc (Nat.le_refl _) (.cells #[.int .i64 kk, .int .i64 n5, .slice B2 l2 f2, .slice B3 l3 f3, .slice B4 l4 f4] 27)
  have hn3 := heap_alloc_new w2 (.cells #[.int .i64 kk, .int .i64 n5, .slice B2 l2 f2, .slice B3 l3 f3, .slice B4 l4 f4] 27)
  obtain ⟨w3, hw3⟩ : ∃ w3, w2.alloc (.cells #[.int .i64 kk, .int .i64 n5, .slice B2 l2 f2, .slice B3 l3 f3, .slice B4 l4 f4] 27) = w3 := ⟨_, rfl⟩
  rw [hw3] at hb3 hn3
  rw [hw3]
  obtain ⟨bo, hbo⟩ : ∃ bo, w2.heap.size = bo := ⟨_, rfl⟩
  have HBO : Hid (w.heap.size + 2 ≤ bo) := Lib.hid (by rw [← hbo]; exact Nat.le_trans HZ0.out HB2.out.size)
  have hb23 := HB2.out.trans (hb3.mono HB2.out.size)
  have HB3 := Lib.hid (HBW.out.trans (hb23.mono HBW.out.size))
  have HOB3 : Hid (ObR w3 (SD (w.heap.size + 2) bo w3) (.mk kk n b l d) (.int .i64 kk) (.int .i64 n5) (.slice B2 l2 f2) (.slice B3 l3 f3) (.slice B4 l4 f4)) := Lib.hid (ObR.keep (fun y hy => hb3.block y hy.2) (fun y hy => ⟨Nat.le_trans HZ0.out hy.1, Nat.lt_of_lt_of_le hy.2 hb3.size, by rw [← hbo]; exact Nat.ne_of_lt hy.2⟩) _ HOB.out)
  have HBX3 := Lib.hid ((hb23.block _ (row_lt _ _ _ HBX.out)).trans HBX.out)
  have HRZ3 := Lib.hid ((hb23.block _ (row_lt _ _ _ HRZ.out)).trans HRZ.out)
  rw [hbo] at hn3
  rw [hbo]
  have HN3 := Lib.hid hn3
  have hl4 : l4 = d.len := by
    have hh := HOB.out
    unfold ObR at hh
    obtain ⟨-, -, -, -, -, -, ⟨A9, c9, e9, -⟩⟩ := hh
    injection e9
  subst hl4
  clear q0 q1 q2 q3 q4 hb3 hn3 hw3 hb23 hbo
  have q0 := cell_of_row w3 w.heap.size 0 _ _ (0, 0) HBX3.out
  have q1 := cell_of_row w3 w.heap.size 1 _ _ (0, 0) HBX3.out
  have q2 := cell_of_row w3 w.heap.size 2 _ _ (0, 0) HBX3.out
  have q3 := cell_of_row w3 w.heap.size 3 _ _ (0, 0) HBX3.out
  have q4 := cell_of_row w3 w.heap.size 4 _ _ (0, 0) HBX3.out
  go_upto_region 4 with (first
    | (go_at_call 52; refine (HHS.out _).mono ?_; (rintro r w4 ⟨rfl, hb4⟩); have HB4 := Lib.hid hb4; clear hb4))
  clear q0 q1 q2 q3 q4
  go_loopw [6] (fun iv wr => ∃ (i cV : Nat) (AV : Option Addr) (O : Ens), iv = .int .i64 i ∧ i ≤ N ∧ Hid (dropF (ks.drop i) O = R) ∧ Hid (O.len ≤ d.len + i) ∧ Hid (wr.heap[bo]? = some (.cells #[.int .i64 kk, .int .i64 n5, .slice B2 l2 f2, .slice B3 l3 f3, .slice AV O.len cV] 27 (0, 0))) ∧ Hid (wr.heap[w.heap.size + 1]? = some (.cells #[.int .i64 0, .int .i64 0, .slice none 0 0, .slice none 0 0, .slice none 0 0] 27 (0, 0))) ∧ Hid (Below w.heap.size w wr) ∧ Hid (ObR wr (SD (w.heap.size + 2) bo wr) (.mk kk n b l O) (.int .i64 kk) (.int .i64 n5) (.slice B2 l2 f2) (.slice B3 l3 f3) (.slice AV O.len cV))) (fun iv _ => N - (intOf iv).toNat)
  case atStart => exact ⟨0, f4, B4, d, rfl, Nat.zero_le _, HR, Lib.hid (Nat.le_refl _), Lib.hid ((HB4.out.block _ (row_lt _ _ _ HN3.out)).trans HN3.out), Lib.hid ((HB4.out.block _ (row_lt _ _ _ HRZ3.out)).trans HRZ3.out), Lib.hid (HB3.out.trans (HB4.out.mono HB3.out.size)), Lib.hid (ObR.keep (fun y hy => HB4.out.block y hy.2.1) (fun y hy => ⟨hy.1, Nat.lt_of_lt_of_le hy.2.1 HB4.out.size, hy.2.2⟩) _ HOB3.out)⟩
  case round =>
    obtain ⟨i, cV, AV, O, rfl, hi, HM, HOL, HBR, HZR, HLO, HOJ⟩ := hrel
    by_cases hlt : i < N
    · have gi : (i : Int) < N := by omega
      have hnb : i < 1001 := by have := HNB.out; omega
      obtain ⟨g, o, rfl, hg, hc⟩ := HKV.out (by rw [HN.out]; omega)
      have hi2 : i < ks.length := by rw [HN.out]; exact hlt
      obtain ⟨t, ht⟩ : ∃ t, ks[i]? = some t := ⟨_, List.getElem?_eq_getElem hi2⟩
      have HCE : Hid (∀ W, Below w.heap.size w W → W.cell? ⟨g, o + i, none⟩ = some (.string t)) := Lib.hid (fun W hW => (World.cell?_of_block (a := ⟨g, o + i, none⟩) (hW.block g hg)).trans (hc i t ht))
      have hdr : ks.drop i = t :: ks.drop (i + 1) := by
        rw [List.drop_eq_getElem_cons hi2]
        rw [List.getElem?_eq_getElem hi2] at ht
        injection ht with ht
        rw [ht]
      have hm := HM.out
      rw [hdr, dropF] at hm
      obtain ⟨O2, hO2⟩ : ∃ O2, withE t nulD O true = O2 := ⟨_, rfl⟩
      have hwl := withE_len t nulD O true
      rw [hO2] at hm hwl
      have HM2 := Lib.hid hm
      have HOL2 : Hid (O2.len ≤ d.len + (i + 1)) := Lib.hid (by have := HOL.out; omega)
      have hoj := HOJ.out
      unfold ObR at hoj
      obtain ⟨-, -, hk, hn, ⟨X2, y2, z2, ex2, hB⟩, ⟨X3, z3, ex3, h3, hl⟩, ⟨X4, z4, ex4, h4, hd⟩⟩ := hoj
      injection ex4 with ex41 ex42 ex43
      subst ex41 ex43
      have hwi := withC t nulD O (SD (w.heap.size + 2) bo wr) (fun _ => False) wr.drew AV cV (.int .i64 0) (.int .i64 0) (.slice none 0 0) (.slice none 0 0) (.slice none 0 0) h4 (EnsV.keep (w' := wr.drew) (show EnsV wr (SD (w.heap.size + 2) bo wr) O AV cV from ⟨h4, hd⟩) (fun _ _ => rfl) (fun _ h => h)).2 (ObR.plain (by omega) (by omega) (bytS_nil _ _)) (fun y hy => hy.2.1) (fun y hy => hy.elim) okO_nulD (by have := HOL.out; have := HDL.out; have := HNB.out; omega)
      rw [show decide (nulD.kind = 0) = true by rfl, hO2] at hwi
      have HWI := Lib.hid hwi
      have HNEW := Lib.hid (fun (w5 : World) (A9 : Option Addr) (c9 : Nat) (hb : Below wr.heap.size wr w5) (hc9 : O2.len ≤ c9 ∧ c9 ≤ 9223372036854775807) (hx9 : 0 < O2.len → ∃ g o, A9 = some ⟨g, o, none⟩ ∧ ((SD (w.heap.size + 2) bo wr g ∨ wr.heap.size ≤ g) ∧ g < w5.heap.size) ∧ EnsR w5 (fun g => (SD (w.heap.size + 2) bo wr g ∨ wr.heap.size ≤ g) ∧ g < w5.heap.size) O2 g o) => (show ObR (w5.setCell ⟨bo, 4, none⟩ (.slice A9 O2.len c9)) (SD (w.heap.size + 2) bo (w5.setCell ⟨bo, 4, none⟩ (.slice A9 O2.len c9))) (.mk kk n b l O2) (.int .i64 kk) (.int .i64 n5) (.slice B2 l2 f2) (.slice B3 l3 f3) (.slice A9 O2.len c9) from by
        have hbl : bo < wr.heap.size := row_lt _ _ _ HBR.out
        have hsz : (w5.setCell ⟨bo, 4, none⟩ (.slice A9 O2.len c9)).heap.size = w5.heap.size := by simp [World.setCell]
        have key : ∀ y, SD (w.heap.size + 2) bo wr y → (w5.setCell ⟨bo, 4, none⟩ (.slice A9 O2.len c9)).heap[y]? = wr.heap[y]? := fun y hy => (set_blk9 w5 bo 4 y _ hy.2.2).trans (hb.block y hy.2.1)
        have keyS : ∀ y, SD (w.heap.size + 2) bo wr y → SD (w.heap.size + 2) bo (w5.setCell ⟨bo, 4, none⟩ (.slice A9 O2.len c9)) y := fun y hy => ⟨hy.1, by rw [hsz]; exact Nat.lt_of_lt_of_le hy.2.1 hb.size, hy.2.2⟩
        have keyN : ∀ y, (SD (w.heap.size + 2) bo wr y ∨ wr.heap.size ≤ y) ∧ y < w5.heap.size → y ≠ bo ∧ SD (w.heap.size + 2) bo (w5.setCell ⟨bo, 4, none⟩ (.slice A9 O2.len c9)) y := fun y hy => by
          have hbo := HBO.out
          rcases hy.1 with h | h
          · exact ⟨h.2.2, keyS y h⟩
          · exact ⟨by omega, by omega, by rw [hsz]; exact hy.2, by omega⟩
        have hoj := HOJ.out
        unfold ObR at hoj ⊢
        obtain ⟨e0, e1, hk, hn, ⟨X2, y2, z2, ex2, hB⟩, ⟨X3, z3, ex3, h3, hl⟩, -⟩ := hoj
        refine ⟨e0, e1, hk, hn, ⟨X2, y2, z2, ex2, hB.keep key keyS⟩, ⟨X3, z3, ex3, h3, fun h0 => ?_⟩, ⟨A9, c9, rfl, hc9, fun h0 => ?_⟩⟩
        · obtain ⟨g, o, e, hg, hr⟩ := hl h0
          exact ⟨g, o, e, keyS g hg, ObsR.keep key keyS l g o (keyS g hg) hg hr⟩
        · obtain ⟨g, o, e, hg, hr⟩ := hx9 h0
          exact ⟨g, o, e, (keyN g hg).2, EnsR.keep (fun y hy => set_blk9 w5 bo 4 y _ (keyN y hy).1) (fun y hy => (keyN y hy).2) O2 g o (keyN g hg).2 hg hr⟩))
      clear hc ht hdr hm hO2 hwl hk hn hB h3 hl h4 hd hwi hg ex2 ex3 ex42 hi2
      have s0 : wr.drew.cell? ⟨bo, 4, none⟩ = some (.slice AV O.len cV) := cell_of_row wr bo 4 _ _ (0, 0) HBR.out
      have s1 := HCE.out wr.drew HLO.out.drew
      go_upto_region 6 with fail
      refine wp_region_heldR (fun W => W.cell? ⟨bo, 4, none⟩ = some (.slice AV O.len cV) ∧ W.cell? ⟨g, o + i, none⟩ = some (.string t)) 9 (by kernel_rfl) ⟨s0, s1⟩ (fun hHeld => ?_)
      refine wpAnyR_take 0 rfl (by kernel_rfl) (by kernel_rfl) (by kernel_rfl) (by kernel_rfl) (fun _ _ _ h => h) (by rfl) (v := ?_) ?_ (by assumption) ?_
      rotate_left
      focus
        intro wS hSw
        (try dsimp only at hSw)
        go_simp
        (try simp only [hSw])
        try with_reducible rfl
      intro hHeld
      try simp only [Act.put, List.setIfInBounds_toArray, List.set_cons_zero, List.set_cons_succ]
      refine wpAnyR_take 1 rfl (by kernel_rfl) (by kernel_rfl) (by kernel_rfl) (by kernel_rfl) (fun _ _ _ h => h) (by rfl) (v := ?_) ?_ (by assumption) ?_
      rotate_left
      focus
        intro wS hSw
        (try dsimp only at hSw)
        go_simp
        (try simp only [hSw])
        try with_reducible rfl
      intro hHeld
      try simp only [Act.put, List.setIfInBounds_toArray, List.set_cons_zero, List.set_cons_succ]
      refine wpAnyR_take 2 rfl (by kernel_rfl) (by kernel_rfl) (by kernel_rfl) (by kernel_rfl) (fun _ _ _ h => h) (by rfl) (v := ?_) ?_ (by assumption) ?_
      rotate_left
      focus
        intro wS hSw
        (try dsimp only at hSw)
        go_simp
        (try simp only [hSw])
        try with_reducible rfl
      intro hHeld
      try simp only [Act.put, List.setIfInBounds_toArray, List.set_cons_zero, List.set_cons_succ]
      refine wpAnyR_take 3 rfl (by kernel_rfl) (by kernel_rfl) (by kernel_rfl) (by kernel_rfl) (fun _ _ _ h => h) (by rfl) (v := ?_) ?_ (by assumption) ?_
      rotate_left
      focus
        intro wS hSw
        (try dsimp only at hSw)
        go_simp
        (try simp only [hSw])
        try with_reducible rfl
      intro hHeld
      try simp only [Act.put, List.setIfInBounds_toArray, List.set_cons_zero, List.set_cons_succ]
      refine wpAnyR_take 4 rfl (by kernel_rfl) (by kernel_rfl) (by kernel_rfl) (by kernel_rfl) (fun _ _ _ h => h) (by rfl) (v := ?_) ?_ (by assumption) ?_
      rotate_left
      focus
        intro wS hSw
        (try dsimp only at hSw)
        go_simp
        (try simp only [hSw])
        try with_reducible rfl
      intro hHeld
      try simp only [Act.put, List.setIfInBounds_toArray, List.set_cons_zero, List.set_cons_succ]
      refine wpAnyR_take 5 rfl (by kernel_rfl) (by kernel_rfl) (by kernel_rfl) (by kernel_rfl) (fun _ _ _ h => h) (by rfl) (v := ?_) ?_ (by assumption) ?_
      rotate_left
      focus
        intro wS hSw
        (try dsimp only at hSw)
        go_simp
        (try simp only [hSw])
        try with_reducible rfl
      intro hHeld
      try simp only [Act.put, List.setIfInBounds_toArray, List.set_cons_zero, List.set_cons_succ]
      refine wpAnyR_take 6 rfl (by kernel_rfl) (by kernel_rfl) (by kernel_rfl) (by kernel_rfl) (fun _ _ _ h => h) (by rfl) (v := ?_) ?_ (by assumption) ?_
      rotate_left
      focus
        intro wS hSw
        (try dsimp only at hSw)
        go_simp
        (try simp only [hSw])
        try with_reducible rfl
      intro hHeld
      try simp only [Act.put, List.setIfInBounds_toArray, List.set_cons_zero, List.set_cons_succ]
      refine wpAnyR_step 7 rfl (by kernel_rfl) (fun K hK => ?_)
      go_simp
      go_at_call 53
      refine HWI.out.mono ?_
      rintro r w5 ⟨A9, c9, rfl, hc9, hx9, hb9⟩
      have hb9' := (Below.refl wr.heap.size wr).drew.trans hb9
      have HOJ9 := Lib.hid (HNEW.out w5 A9 c9 hb9' hc9 hx9)
      have hrow5 := (hb9'.block bo (row_lt _ _ _ HBR.out)).trans HBR.out
      have HBR9 : Hid ((w5.setCell ⟨bo, 4, none⟩ (.slice A9 O2.len c9)).heap[bo]? = some (.cells #[.int .i64 kk, .int .i64 n5, .slice B2 l2 f2, .slice B3 l3 f3, .slice A9 O2.len c9] 27 (0, 0))) := Lib.hid (heap_set w5 bo 4 (.slice A9 O2.len c9) [.int .i64 kk, .int .i64 n5, .slice B2 l2 f2, .slice B3 l3 f3, .slice AV O.len cV] _ hrow5)
      have HZR9 : Hid ((w5.setCell ⟨bo, 4, none⟩ (.slice A9 O2.len c9)).heap[w.heap.size + 1]? = some (.cells #[.int .i64 0, .int .i64 0, .slice none 0 0, .slice none 0 0, .slice none 0 0] 27 (0, 0))) := Lib.hid ((set_blk9 w5 bo 4 (w.heap.size + 1) _ (by have := HBO.out; omega)).trans ((hb9'.block _ (row_lt _ _ _ HZR.out)).trans HZR.out))
      have hlo5 := HLO.out.trans (hb9'.mono HLO.out.size)
      have HLO9 : Hid (Below w.heap.size w (w5.setCell ⟨bo, 4, none⟩ (.slice A9 O2.len c9))) := Lib.hid (hlo5.setCell (p := ⟨bo, 4, none⟩) (by have := HBO.out; show w.heap.size ≤ bo; omega) _)
      have fz : w5.frozen? ⟨bo, 4, none⟩ = false := by simp [World.frozen?, hrow5]
      have p0 := cell_of_row w5 bo 4 _ _ (0, 0) hrow5
      have p1 := HCE.out w5 hlo5
      have hst := And.intro p0 p1
      clear hb9 hb9' hc9 hx9 hrow5 hlo5
      go_wp2_with fail
      refine hK.out _ _ hst (fun hHeld => ?_)
      clear hK K
      try simp only [Act.put, List.setIfInBounds_toArray, List.set_cons_zero, List.set_cons_succ]
      refine wpAnyR_take 8 rfl (by kernel_rfl) (by kernel_rfl) (by kernel_rfl) (by kernel_rfl) (fun _ _ _ h => h) (by rfl) (v := ?_) ?_ (by assumption) ?_
      rotate_left
      focus
        intro wS hSw
        (try dsimp only at hSw)
        go_simp
        (try simp only [hSw])
        try with_reducible rfl
      intro hHeld
      try simp only [Act.put, List.setIfInBounds_toArray, List.set_cons_zero, List.set_cons_succ]
      refine wpAnyR_last rfl (by kernel_rfl) (by kernel_rfl) (fun K hK => ?_)
      go_simp
      refine hK.out _ _ ?_
      clear hK K
      refine NoPanic.normal ?_
      go_wp2_with fail
      go_roundw
      case rel => exact ⟨i + 1, c9, A9, O2, by go_num, by omega, HM2, HOL2, HBR9, HZR9, HLO9, HOJ9⟩
      case measure => simp [intOf]; omega
    · obtain rfl : i = N := by omega
      have hm := HM.out
      rw [List.drop_eq_nil_of_le (Nat.le_of_eq HN.out), dropF] at hm
      subst hm
      have g0 := cell_of_row wr bo 0 _ _ (0, 0) HBR.out
      have g1 := cell_of_row wr bo 1 _ _ (0, 0) HBR.out
      have g2 := cell_of_row wr bo 2 _ _ (0, 0) HBR.out
      have g3 := cell_of_row wr bo 3 _ _ (0, 0) HBR.out
      have g4 := cell_of_row wr bo 4 _ _ (0, 0) HBR.out
      obtain ⟨r0, r1, r2, r3, r4, r5⟩ := zero_cells HZR.out
      go_wp2_with fail
      refine bodyPost_ret (results_cell_row rfl _ _ (w.heap.size + 1) 27 _ (0, 0) _ rfl (set5_row HZR.out) Try.underlying27 rfl (by kernel_rfl)) rfl ?_
      exact ⟨_, _, _, _, _, rfl, ObR.keep (fun y hy => heap_set5 (by have := hy.1; omega)) (fun y hy => ⟨by have := hy.1; omega, by rw [size_set5]; exact hy.2.1⟩) _ HOJ.out, below_set5 HLO.out (Nat.le_succ _)⟩
set_option maxHeartbeats 4000000 in
theorem rSetG (kk n : Int) (hk78 : kk = 7 ∨ kk = 8) (b : List Int) (l : Obs) (d : Ens) (m : Ens) (AK : Option Addr) (cK : Nat) (S Sm : Nat → Prop) (w : World) (c0 c1 c2 c3 c4 : Value) (hx : ObR w S (.mk kk n b l d) c0 c1 c2 c3 c4) (hS : ∀ g, S g → g < w.heap.size)
    (hK : EnsV w Sm m AK cK) (hSm : ∀ g, Sm g → g < w.heap.size) (hmo : okE m) (hkl : m.len ≤ 1000) (hok : okO (.mk kk n b l d)) (hdl : d.len ≤ 90000000) :
    Calls Try.prog 31 #[.agg #[c0, c1, c2, c3, c4], .slice AK m.len cK] w (CpP w (.mk kk n b l (dictF m d))) := by
  have hx0 := hx
  obtain ⟨k, nn, A2, m2, d2, A3, m3, d3, A4, m4, d4, rfl, rfl, rfl, rfl, rfl⟩ := hx.form
  have hk7 : kk = k := Eq.symm (by unfold ObR at hx; have := hx.1; injection this)
  subst hk7
  have hb1 := (Below.refl w.heap.size w).alloc (Nat.le_refl _) (.cells #[.int .i64 kk, .int .i64 nn, .slice A2 m2 d2, .slice A3 m3 d3, .slice A4 m4 d4] 27)
  have hn1 := heap_alloc_new w (.cells #[.int .i64 kk, .int .i64 nn, .slice A2 m2 d2, .slice A3 m3 d3, .slice A4 m4 d4] 27)
  obtain ⟨W1, hW1⟩ : ∃ W1, w.alloc (.cells #[.int .i64 kk, .int .i64 nn, .slice A2 m2 d2, .slice A3 m3 d3, .slice A4 m4 d4] 27) = W1 := ⟨_, rfl⟩
  have hs1 : W1.heap.size = w.heap.size + 1 := by rw [← hW1]; simp
  rw [hW1] at hb1 hn1
  have hb0 := (Below.refl W1.heap.size W1).alloc (Nat.le_refl _) (.cells #[.int .i64 0, .int .i64 0, .slice none 0 0, .slice none 0 0, .slice none 0 0] 27)
  have hn0 := heap_alloc_new W1 (.cells #[.int .i64 0, .int .i64 0, .slice none 0 0, .slice none 0 0, .slice none 0 0] 27)
  obtain ⟨W0, hW0⟩ : ∃ W0, W1.alloc (.cells #[.int .i64 0, .int .i64 0, .slice none 0 0, .slice none 0 0, .slice none 0 0] 27) = W0 := ⟨_, rfl⟩
  rw [hW0] at hb0 hn0
  rw [hs1] at hn0
  have hbx := (hb0.block _ (row_lt _ _ _ hn1)).trans hn1
  have hbw := hb1.trans (hb0.mono hb1.size)
  have HCY := Lib.hid (copyC _ (.mk kk n b l d) (Nat.le_refl _) hok S W0 _ _ _ _ _ (ObR.keep (fun y hy => hbw.block y (hS y hy)) (fun _ h => h) _ hx0) (fun y hy => Nat.lt_of_lt_of_le (hS y hy) hbw.size))
  have HBW := Lib.hid hbw
  have HBX := Lib.hid hbx
  have HRZ := Lib.hid hn0
  have HW1 := Lib.hid hW1
  have HW0 := Lib.hid hW0
  have HKV := Lib.hid hK
  have HDL := Lib.hid hdl
  have hhs := fun W' => hasC kk (.int .i64 nn) (.slice A2 m2 d2) (.slice A3 m3 d3) (.slice A4 m4 d4) W'
  simp only [decide_eq_true hk78] at hhs
  have HHS := Lib.hid hhs
  have q0 := cell_of_row W0 w.heap.size 0 _ _ (0, 0) hbx
  have q1 := cell_of_row W0 w.heap.size 1 _ _ (0, 0) hbx
  have q2 := cell_of_row W0 w.heap.size 2 _ _ (0, 0) hbx
  have q3 := cell_of_row W0 w.heap.size 3 _ _ (0, 0) hbx
  have q4 := cell_of_row W0 w.heap.size 4 _ _ (0, 0) hbx
  have hz0 : w.heap.size + 2 ≤ W0.heap.size := by have := row_lt _ _ _ hn0; omega
  have HZ0 := Lib.hid hz0
  have HSM := Lib.hid hSm
  have HMO := Lib.hid hmo
  obtain ⟨N, hN⟩ : ∃ N, m.len = N := ⟨_, rfl⟩
  have HN := Lib.hid hN
  have HNB : Hid (N ≤ 1000) := Lib.hid (by omega)
  obtain ⟨R, hR⟩ : ∃ R, dictF m d = R := ⟨_, rfl⟩
  have HR := Lib.hid hR
  rw [hN, hR]
  clear hhs hk78 hSm hmo hx hx0 hb1 hn1 hW1 hs1 hb0 hn0 hW0 hbx hbw hK hkl hok hdl hS hz0 hN hR
  go_enter Try.func31, Try.ntmps31
  go_upto_region 1 with fail
  rw [HW1.out, HW0.out]
  go_upto_region 2 with (first
    | (go_at_call 29; refine HCY.out.mono ?_; (rintro r w2 ⟨e0, e1, e2, e3, e4, hrr, hob, hb2⟩); subst hrr; obtain ⟨k5, n5, B2, l2, f2, B3, l3, f3, B4, l4, f4, rfl, rfl, rfl, rfl, rfl⟩ := hob.form; have HOB := Lib.hid hob; have HB2 := Lib.hid hb2; clear hob hb2))
  have hk5 : kk = k5 := Eq.symm (by have hh := HOB.out; unfold ObR at hh; have := hh.1; injection this)
  subst hk5
  have hb3 := (Below.refl w2.heap.size w2).alloc (Nat.le_refl _) (.cells #[.int .i64 kk, .int .i64 n5, .slice B2 l2 f2, .slice B3 l3 f3, .slice B4 l4 f4] 27)
  have hn3 := heap_alloc_new w2 (.cells #[.int .i64 kk, .int .i64 n5, .slice B2 l2 f2, .slice B3 l3 f3, .slice B4 l4 f4] 27)
  obtain ⟨w3, hw3⟩ : ∃ w3, w2.alloc (.cells #[.int .i64 kk, .int .i64 n5, .slice B2 l2 f2, .slice B3 l3 f3, .slice B4 l4 f4] 27) = w3 := ⟨_, rfl⟩
  rw [hw3] at hb3 hn3
  rw [hw3]
  obtain ⟨bo, hbo⟩ : ∃ bo, w2.heap.size = bo := ⟨_, rfl⟩
  have HBO : Hid (w.heap.size + 2 ≤ bo) := Lib.hid (by rw [← hbo]; exact Nat.le_trans HZ0.out HB2.out.size)
  have hb23 := HB2.out.trans (hb3.mono HB2.out.size)
  have HB3 := Lib.hid (HBW.out.trans (hb23.mono HBW.out.size))
  have HOB3 : Hid (ObR w3 (SD (w.heap.size + 2) bo w3) (.mk kk n b l d) (.int .i64 kk) (.int .i64 n5) (.slice B2 l2 f2) (.slice B3 l3 f3) (.slice B4 l4 f4)) := Lib.hid (ObR.keep (fun y hy => hb3.block y hy.2) (fun y hy => ⟨Nat.le_trans HZ0.out hy.1, Nat.lt_of_lt_of_le hy.2 hb3.size, by rw [← hbo]; exact Nat.ne_of_lt hy.2⟩) _ HOB.out)
  have HBX3 := Lib.hid ((hb23.block _ (row_lt _ _ _ HBX.out)).trans HBX.out)
  have HRZ3 := Lib.hid ((hb23.block _ (row_lt _ _ _ HRZ.out)).trans HRZ.out)
  rw [hbo] at hn3
  rw [hbo]
  have HN3 := Lib.hid hn3
  have hl4 : l4 = d.len := by
    have hh := HOB.out
    unfold ObR at hh
    obtain ⟨-, -, -, -, -, -, ⟨A9, c9, e9, -⟩⟩ := hh
    injection e9
  subst hl4
  clear q0 q1 q2 q3 q4 hb3 hn3 hw3 hb23 hbo
  have q0 := cell_of_row w3 w.heap.size 0 _ _ (0, 0) HBX3.out
  have q1 := cell_of_row w3 w.heap.size 1 _ _ (0, 0) HBX3.out
  have q2 := cell_of_row w3 w.heap.size 2 _ _ (0, 0) HBX3.out
  have q3 := cell_of_row w3 w.heap.size 3 _ _ (0, 0) HBX3.out
  have q4 := cell_of_row w3 w.heap.size 4 _ _ (0, 0) HBX3.out
  go_upto_region 4 with (first
    | (go_at_call 52; refine (HHS.out _).mono ?_; (rintro r w4 ⟨rfl, hb4⟩); have HB4 := Lib.hid hb4; clear hb4))
  clear q0 q1 q2 q3 q4
  go_loopw [6] (fun iv wr => ∃ (i cV : Nat) (AV : Option Addr) (O : Ens), iv = .int .i64 i ∧ i ≤ N ∧ Hid (dictF (m.dropN i) O = R) ∧ Hid (O.len ≤ d.len + i) ∧ Hid (wr.heap[bo]? = some (.cells #[.int .i64 kk, .int .i64 n5, .slice B2 l2 f2, .slice B3 l3 f3, .slice AV O.len cV] 27 (0, 0))) ∧ Hid (wr.heap[w.heap.size + 1]? = some (.cells #[.int .i64 0, .int .i64 0, .slice none 0 0, .slice none 0 0, .slice none 0 0] 27 (0, 0))) ∧ Hid (Below w.heap.size w wr) ∧ Hid (ObR wr (SD (w.heap.size + 2) bo wr) (.mk kk n b l O) (.int .i64 kk) (.int .i64 n5) (.slice B2 l2 f2) (.slice B3 l3 f3) (.slice AV O.len cV))) (fun iv _ => N - (intOf iv).toNat)
  case atStart => exact ⟨0, f4, B4, d, rfl, Nat.zero_le _, Lib.hid (by rw [← HR.out]; cases m <;> rfl), Lib.hid (Nat.le_refl _), Lib.hid ((HB4.out.block _ (row_lt _ _ _ HN3.out)).trans HN3.out), Lib.hid ((HB4.out.block _ (row_lt _ _ _ HRZ3.out)).trans HRZ3.out), Lib.hid (HB3.out.trans (HB4.out.mono HB3.out.size)), Lib.hid (ObR.keep (fun y hy => HB4.out.block y hy.2.1) (fun y hy => ⟨hy.1, Nat.lt_of_lt_of_le hy.2.1 HB4.out.size, hy.2.2⟩) _ HOB3.out)⟩
  case round =>
    obtain ⟨i, cV, AV, O, rfl, hi, HM, HOL, HBR, HZR, HLO, HOJ⟩ := hrel
    by_cases hlt : i < N
    · have gi : (i : Int) < N := by omega
      have hnb : i < 1001 := by have := HNB.out; omega
      obtain ⟨g, o, rfl, hgS, hobs⟩ := HKV.out.2 (by rw [HN.out]; omega)
      obtain ⟨sy, y, hy⟩ := m.get_some i (by rw [HN.out]; exact hlt)
      obtain ⟨v0, v1, v2, v3, v4, ks, u0, u1, u2, u3, u4, hyr⟩ := hobs.get m g o i sy y hy
      have hg : g < w.heap.size := HSM.out g hgS
      obtain ⟨k9, n9, A29, m29, c29, A39, m39, c39, A49, m49, c49, rfl, rfl, rfl, rfl, rfl⟩ := hyr.form
      have HCE : Hid (∀ W, Below w.heap.size w W → W.cell? ⟨g, o + i * 6, none⟩ = some (.string sy) ∧ W.cell? ⟨g, o + i * 6 + 1, none⟩ = some (.int .i64 k9) ∧ W.cell? ⟨g, o + i * 6 + 2, none⟩ = some (.int .i64 n9) ∧ W.cell? ⟨g, o + i * 6 + 3, none⟩ = some (.slice A29 m29 c29) ∧ W.cell? ⟨g, o + i * 6 + 4, none⟩ = some (.slice A39 m39 c39) ∧ W.cell? ⟨g, o + i * 6 + 5, none⟩ = some (.slice A49 m49 c49)) := Lib.hid (fun W hW => by
        have e := fun j => World.cell?_of_block (a := ⟨g, j, none⟩) (hW.block g hg)
        exact ⟨(e _).trans ks, (e _).trans u0, (e _).trans u1, (e _).trans u2, (e _).trans u3, (e _).trans u4⟩)
      have hm := HM.out
      rw [dictF_drop m i sy y O hy] at hm
      obtain ⟨O2, hO2⟩ : ∃ O2, withE sy y O (decide (y.kind = 0)) = O2 := ⟨_, rfl⟩
      have hwl := withE_len sy y O (decide (y.kind = 0))
      rw [hO2] at hm hwl
      have HM2 := Lib.hid hm
      have HOL2 : Hid (O2.len ≤ d.len + (i + 1)) := Lib.hid (by have := HOL.out; omega)
      have hoj := HOJ.out
      unfold ObR at hoj
      obtain ⟨-, -, hk, hn, ⟨X2, y2, z2, ex2, hB⟩, ⟨X3, z3, ex3, h3, hl⟩, ⟨X4, z4, ex4, h4, hd⟩⟩ := hoj
      injection ex4 with ex41 ex42 ex43
      subst ex41 ex43
      have hwd : Below w.heap.size w wr.drew := HLO.out.drew
      have hwi := withC sy y O (SD (w.heap.size + 2) bo wr) Sm wr.drew AV cV (.int .i64 k9) (.int .i64 n9) (.slice A29 m29 c29) (.slice A39 m39 c39) (.slice A49 m49 c49) h4 (EnsV.keep (w' := wr.drew) (show EnsV wr (SD (w.heap.size + 2) bo wr) O AV cV from ⟨h4, hd⟩) (fun _ _ => rfl) (fun _ h => h)).2 (ObR.keep (fun b hb => hwd.block b (HSM.out b hb)) (fun _ h => h) y hyr) (fun y hy => hy.2.1) (fun b hb => Nat.lt_of_lt_of_le (HSM.out b hb) hwd.size) (okE_get m i sy y HMO.out hy) (by have := HOL.out; have := HDL.out; have := HNB.out; omega)
      rw [hO2] at hwi
      have HWI := Lib.hid hwi
      have HNEW := Lib.hid (fun (w5 : World) (A9 : Option Addr) (c9 : Nat) (hb : Below wr.heap.size wr w5) (hc9 : O2.len ≤ c9 ∧ c9 ≤ 9223372036854775807) (hx9 : 0 < O2.len → ∃ g o, A9 = some ⟨g, o, none⟩ ∧ ((SD (w.heap.size + 2) bo wr g ∨ wr.heap.size ≤ g) ∧ g < w5.heap.size) ∧ EnsR w5 (fun g => (SD (w.heap.size + 2) bo wr g ∨ wr.heap.size ≤ g) ∧ g < w5.heap.size) O2 g o) => (show ObR (w5.setCell ⟨bo, 4, none⟩ (.slice A9 O2.len c9)) (SD (w.heap.size + 2) bo (w5.setCell ⟨bo, 4, none⟩ (.slice A9 O2.len c9))) (.mk kk n b l O2) (.int .i64 kk) (.int .i64 n5) (.slice B2 l2 f2) (.slice B3 l3 f3) (.slice A9 O2.len c9) from by
        have hbl : bo < wr.heap.size := row_lt _ _ _ HBR.out
        have hsz : (w5.setCell ⟨bo, 4, none⟩ (.slice A9 O2.len c9)).heap.size = w5.heap.size := by simp [World.setCell]
        have key : ∀ y, SD (w.heap.size + 2) bo wr y → (w5.setCell ⟨bo, 4, none⟩ (.slice A9 O2.len c9)).heap[y]? = wr.heap[y]? := fun y hy => (set_blk9 w5 bo 4 y _ hy.2.2).trans (hb.block y hy.2.1)
        have keyS : ∀ y, SD (w.heap.size + 2) bo wr y → SD (w.heap.size + 2) bo (w5.setCell ⟨bo, 4, none⟩ (.slice A9 O2.len c9)) y := fun y hy => ⟨hy.1, by rw [hsz]; exact Nat.lt_of_lt_of_le hy.2.1 hb.size, hy.2.2⟩
        have keyN : ∀ y, (SD (w.heap.size + 2) bo wr y ∨ wr.heap.size ≤ y) ∧ y < w5.heap.size → y ≠ bo ∧ SD (w.heap.size + 2) bo (w5.setCell ⟨bo, 4, none⟩ (.slice A9 O2.len c9)) y := fun y hy => by
          have hbo := HBO.out
          rcases hy.1 with h | h
          · exact ⟨h.2.2, keyS y h⟩
          · exact ⟨by omega, by omega, by rw [hsz]; exact hy.2, by omega⟩
        have hoj := HOJ.out
        unfold ObR at hoj ⊢
        obtain ⟨e0, e1, hk, hn, ⟨X2, y2, z2, ex2, hB⟩, ⟨X3, z3, ex3, h3, hl⟩, -⟩ := hoj
        refine ⟨e0, e1, hk, hn, ⟨X2, y2, z2, ex2, hB.keep key keyS⟩, ⟨X3, z3, ex3, h3, fun h0 => ?_⟩, ⟨A9, c9, rfl, hc9, fun h0 => ?_⟩⟩
        · obtain ⟨g, o, e, hg, hr⟩ := hl h0
          exact ⟨g, o, e, keyS g hg, ObsR.keep key keyS l g o (keyS g hg) hg hr⟩
        · obtain ⟨g, o, e, hg, hr⟩ := hx9 h0
          exact ⟨g, o, e, (keyN g hg).2, EnsR.keep (fun y hy => set_blk9 w5 bo 4 y _ (keyN y hy).1) (fun y hy => (keyN y hy).2) O2 g o (keyN g hg).2 hg hr⟩))
      clear hobs hyr hy hgS ks u0 u1 u2 u3 u4 hm hO2 hwl hk hn hB h3 hl h4 hd hwi hg ex2 ex3 ex42 hwd
      have s0 : wr.drew.cell? ⟨bo, 4, none⟩ = some (.slice AV O.len cV) := cell_of_row wr bo 4 _ _ (0, 0) HBR.out
      obtain ⟨s1, s2, s3, s4, s5, s6⟩ := HCE.out wr.drew HLO.out.drew
      go_upto_region 6 with fail
      refine wp_region_heldR (fun W => W.cell? ⟨bo, 4, none⟩ = some (.slice AV O.len cV) ∧ W.cell? ⟨g, o + i * 6, none⟩ = some (.string sy) ∧ W.cell? ⟨g, o + i * 6 + 1, none⟩ = some (.int .i64 k9) ∧ W.cell? ⟨g, o + i * 6 + 2, none⟩ = some (.int .i64 n9) ∧ W.cell? ⟨g, o + i * 6 + 3, none⟩ = some (.slice A29 m29 c29) ∧ W.cell? ⟨g, o + i * 6 + 4, none⟩ = some (.slice A39 m39 c39) ∧ W.cell? ⟨g, o + i * 6 + 5, none⟩ = some (.slice A49 m49 c49)) 8 (by kernel_rfl) ⟨s0, s1, s2, s3, s4, s5, s6⟩ (fun hHeld => ?_)
      refine wpAnyR_take 0 rfl (by kernel_rfl) (by kernel_rfl) (by kernel_rfl) (by kernel_rfl) (fun _ _ _ h => h) (by rfl) (v := ?_) ?_ (by assumption) ?_
      rotate_left
      focus
        intro wS hSw
        (try dsimp only at hSw)
        go_simp
        (try simp only [hSw])
        try with_reducible rfl
      intro hHeld
      try simp only [Act.put, List.setIfInBounds_toArray, List.set_cons_zero, List.set_cons_succ]
      refine wpAnyR_take 1 rfl (by kernel_rfl) (by kernel_rfl) (by kernel_rfl) (by kernel_rfl) (fun _ _ _ h => h) (by rfl) (v := ?_) ?_ (by assumption) ?_
      rotate_left
      focus
        intro wS hSw
        (try dsimp only at hSw)
        go_simp
        (try simp only [hSw])
        try with_reducible rfl
      intro hHeld
      try simp only [Act.put, List.setIfInBounds_toArray, List.set_cons_zero, List.set_cons_succ]
      refine wpAnyR_take 2 rfl (by kernel_rfl) (by kernel_rfl) (by kernel_rfl) (by kernel_rfl) (fun _ _ _ h => h) (by rfl) (v := ?_) ?_ (by assumption) ?_
      rotate_left
      focus
        intro wS hSw
        (try dsimp only at hSw)
        go_simp
        (try simp only [hSw])
        try with_reducible rfl
      intro hHeld
      try simp only [Act.put, List.setIfInBounds_toArray, List.set_cons_zero, List.set_cons_succ]
      refine wpAnyR_take 3 rfl (by kernel_rfl) (by kernel_rfl) (by kernel_rfl) (by kernel_rfl) (fun _ _ _ h => h) (by rfl) (v := ?_) ?_ (by assumption) ?_
      rotate_left
      focus
        intro wS hSw
        (try dsimp only at hSw)
        go_simp
        (try simp only [hSw])
        try with_reducible rfl
      intro hHeld
      try simp only [Act.put, List.setIfInBounds_toArray, List.set_cons_zero, List.set_cons_succ]
      refine wpAnyR_take 4 rfl (by kernel_rfl) (by kernel_rfl) (by kernel_rfl) (by kernel_rfl) (fun _ _ _ h => h) (by rfl) (v := ?_) ?_ (by assumption) ?_
      rotate_left
      focus
        intro wS hSw
        (try dsimp only at hSw)
        go_simp
        (try simp only [hSw])
        try with_reducible rfl
      intro hHeld
      try simp only [Act.put, List.setIfInBounds_toArray, List.set_cons_zero, List.set_cons_succ]
      refine wpAnyR_take 5 rfl (by kernel_rfl) (by kernel_rfl) (by kernel_rfl) (by kernel_rfl) (fun _ _ _ h => h) (by rfl) (v := ?_) ?_ (by assumption) ?_
      rotate_left
      focus
        intro wS hSw
        (try dsimp only at hSw)
        go_simp
        (try simp only [hSw])
        try with_reducible rfl
      intro hHeld
      try simp only [Act.put, List.setIfInBounds_toArray, List.set_cons_zero, List.set_cons_succ]
      refine wpAnyR_step 6 rfl (by kernel_rfl) (fun K hK => ?_)
      go_simp
      go_at_call 53
      refine HWI.out.mono ?_
      rintro r w5 ⟨A9, c9, rfl, hc9, hx9, hb9⟩
      have hb9' := (Below.refl wr.heap.size wr).drew.trans hb9
      have HOJ9 := Lib.hid (HNEW.out w5 A9 c9 hb9' hc9 hx9)
      have hrow5 := (hb9'.block bo (row_lt _ _ _ HBR.out)).trans HBR.out
      have HBR9 : Hid ((w5.setCell ⟨bo, 4, none⟩ (.slice A9 O2.len c9)).heap[bo]? = some (.cells #[.int .i64 kk, .int .i64 n5, .slice B2 l2 f2, .slice B3 l3 f3, .slice A9 O2.len c9] 27 (0, 0))) := Lib.hid (heap_set w5 bo 4 (.slice A9 O2.len c9) [.int .i64 kk, .int .i64 n5, .slice B2 l2 f2, .slice B3 l3 f3, .slice AV O.len cV] _ hrow5)
      have HZR9 : Hid ((w5.setCell ⟨bo, 4, none⟩ (.slice A9 O2.len c9)).heap[w.heap.size + 1]? = some (.cells #[.int .i64 0, .int .i64 0, .slice none 0 0, .slice none 0 0, .slice none 0 0] 27 (0, 0))) := Lib.hid ((set_blk9 w5 bo 4 (w.heap.size + 1) _ (by have := HBO.out; omega)).trans ((hb9'.block _ (row_lt _ _ _ HZR.out)).trans HZR.out))
      have hlo5 := HLO.out.trans (hb9'.mono HLO.out.size)
      have HLO9 : Hid (Below w.heap.size w (w5.setCell ⟨bo, 4, none⟩ (.slice A9 O2.len c9))) := Lib.hid (hlo5.setCell (p := ⟨bo, 4, none⟩) (by have := HBO.out; show w.heap.size ≤ bo; omega) _)
      have fz : w5.frozen? ⟨bo, 4, none⟩ = false := by simp [World.frozen?, hrow5]
      have p0 := cell_of_row w5 bo 4 _ _ (0, 0) hrow5
      have p1 := HCE.out w5 hlo5
      have hst := And.intro p0 p1
      clear hb9 hb9' hc9 hx9 hrow5 hlo5
      go_wp2_with fail
      refine hK.out _ _ hst (fun hHeld => ?_)
      clear hK K
      try simp only [Act.put, List.setIfInBounds_toArray, List.set_cons_zero, List.set_cons_succ]
      refine wpAnyR_take 7 rfl (by kernel_rfl) (by kernel_rfl) (by kernel_rfl) (by kernel_rfl) (fun _ _ _ h => h) (by rfl) (v := ?_) ?_ (by assumption) ?_
      rotate_left
      focus
        intro wS hSw
        (try dsimp only at hSw)
        go_simp
        (try simp only [hSw])
        try with_reducible rfl
      intro hHeld
      try simp only [Act.put, List.setIfInBounds_toArray, List.set_cons_zero, List.set_cons_succ]
      refine wpAnyR_last rfl (by kernel_rfl) (by kernel_rfl) (fun K hK => ?_)
      go_simp
      refine hK.out _ _ ?_
      clear hK K
      refine NoPanic.normal ?_
      go_wp2_with fail
      go_roundw
      case rel => exact ⟨i + 1, c9, A9, O2, by go_num, by omega, HM2, HOL2, HBR9, HZR9, HLO9, HOJ9⟩
      case measure => simp [intOf]; omega
    · obtain rfl : i = N := by omega
      have hm := HM.out
      have he := Ens.drop_end m
      rw [HN.out] at he
      rw [he, dictF] at hm
      subst hm
      have g0 := cell_of_row wr bo 0 _ _ (0, 0) HBR.out
      have g1 := cell_of_row wr bo 1 _ _ (0, 0) HBR.out
      have g2 := cell_of_row wr bo 2 _ _ (0, 0) HBR.out
      have g3 := cell_of_row wr bo 3 _ _ (0, 0) HBR.out
      have g4 := cell_of_row wr bo 4 _ _ (0, 0) HBR.out
      obtain ⟨r0, r1, r2, r3, r4, r5⟩ := zero_cells HZR.out
      go_wp2_with fail
      refine bodyPost_ret (results_cell_row rfl _ _ (w.heap.size + 1) 27 _ (0, 0) _ rfl (set5_row HZR.out) Try.underlying27 rfl (by kernel_rfl)) rfl ?_
      exact ⟨_, _, _, _, _, rfl, ObR.keep (fun y hy => heap_set5 (by have := hy.1; omega)) (fun y hy => ⟨by have := hy.1; omega, by rw [size_set5]; exact hy.2.1⟩) _ HOJ.out, below_set5 HLO.out (Nat.le_succ _)⟩
set_option maxHeartbeats 4000000 in
/-- Set of what has no entries: a copy. -/
theorem pSetN (W : Nat) (x : Ob) (hk : ¬ (x.kind = 7 ∨ x.kind = 8)) (vK : Value) (S : Nat → Prop) (w : World) (c0 c1 c2 c3 c4 : Value) (hx : ObR w S x c0 c1 c2 c3 c4) (hS : ∀ g, S g → g < w.heap.size) (hW : wdO W x) (hH : W * htO x ≤ 1000000000) :
    Calls Try.prog 30 #[.agg #[c0, c1, c2, c3, c4], vK] w (CpP w x) := by
  obtain ⟨k, n, A2, m2, d2, A3, m3, d3, A4, m4, d4, rfl, rfl, rfl, rfl, rfl⟩ := hx.form
  have hkk := kind_c0 hx
  injection hkk with _ hkk
  rw [← hkk] at hk
  have hb2 := ((Below.refl w.heap.size w).alloc (Nat.le_refl _) (.cells #[.int .i64 k, .int .i64 n, .slice A2 m2 d2, .slice A3 m3 d3, .slice A4 m4 d4] 27)).alloc (by simp) (.cells #[.int .i64 0, .int .i64 0, .slice none 0 0, .slice none 0 0, .slice none 0 0] 27)
  have hn2 := heap_alloc2_new w (.cells #[.int .i64 k, .int .i64 n, .slice A2 m2 d2, .slice A3 m3 d3, .slice A4 m4 d4] 27) (.cells #[.int .i64 0, .int .i64 0, .slice none 0 0, .slice none 0 0, .slice none 0 0] 27)
  have hn1 : ((w.alloc (.cells #[.int .i64 k, .int .i64 n, .slice A2 m2 d2, .slice A3 m3 d3, .slice A4 m4 d4] 27)).alloc (.cells #[.int .i64 0, .int .i64 0, .slice none 0 0, .slice none 0 0, .slice none 0 0] 27)).heap[w.heap.size]? = some (.cells #[.int .i64 k, .int .i64 n, .slice A2 m2 d2, .slice A3 m3 d3, .slice A4 m4 d4] 27) := by
    rw [heap_alloc_old _ _ (by simp)]; exact heap_alloc_new w _
  obtain ⟨W2, hW2⟩ : ∃ W2, (w.alloc (.cells #[.int .i64 k, .int .i64 n, .slice A2 m2 d2, .slice A3 m3 d3, .slice A4 m4 d4] 27)).alloc (.cells #[.int .i64 0, .int .i64 0, .slice none 0 0, .slice none 0 0, .slice none 0 0] 27) = W2 := ⟨_, rfl⟩
  rw [hW2] at hb2 hn2 hn1
  have HKY := Lib.hid (keyedNo k (.int .i64 n) (.slice A2 m2 d2) (.slice A3 m3 d3) (.slice A4 m4 d4) hk W2)
  have HCY := Lib.hid (fun W' (hW' : Below w.heap.size w W') => pCopyC 1000000000 W x hW hH (Nat.le_refl _) S W' _ _ _ _ _ (ObR.keep (fun y hy => hW'.block y (hS y hy)) (fun _ h => h) _ hx) (fun y hy => Nat.lt_of_lt_of_le (hS y hy) hW'.size))
  have m0 := cell_of_row W2 w.heap.size 0 _ _ (0, 0) hn1
  have m1 := cell_of_row W2 w.heap.size 1 _ _ (0, 0) hn1
  have m2' := cell_of_row W2 w.heap.size 2 _ _ (0, 0) hn1
  have m3' := cell_of_row W2 w.heap.size 3 _ _ (0, 0) hn1
  have m4' := cell_of_row W2 w.heap.size 4 _ _ (0, 0) hn1
  have HB2 := Lib.hid hb2
  have HN1 := Lib.hid hn1
  have HN2 := Lib.hid hn2
  have HW2 := Lib.hid hW2
  clear hx hS hW hH hb2 hn2 hn1 hW2 hk hkk
  go_enter Try.func30, Try.ntmps30
  go_upto_region 1 with fail
  rw [HW2.out]
  go_upto_region 2 with (go_at_call 49; refine HKY.out.mono ?_; (rintro r w3 ⟨rfl, hb3⟩); have HB3 := Lib.hid (HB2.out.trans (hb3.mono HB2.out.size)); have HZ3 := Lib.hid (blk_keep9 hb3 HN2.out); (obtain ⟨q0, q1, q2, q3, q4, -⟩ := row5_of (blk_keep9 hb3 HN1.out)); clear hb3 m0 m1 m2' m3' m4')
  go_wp2_with (go_at_call 21; refine (HCY.out _ HB3.out).mono ?_; (rintro r w5 ⟨e0, e1, e2, e3, e4, rfl, hob, hb5⟩); (obtain ⟨k5, n5, A5, m5, e5, A6, m6, e6, A8, m8, e8, rfl, rfl, rfl, rfl, rfl⟩ := hob.form); have HOB := Lib.hid hob; have HB5 := Lib.hid hb5; have HZ5 := Lib.hid (blk_keep9 hb5 HZ3.out); (obtain ⟨r0, r1, r2, r3, r4, r5⟩ := zero_cells HZ5.out); clear hob hb5)
  refine bodyPost_ret (results_cell_row rfl _ _ (w.heap.size + 1) 27 _ (0, 0) _ rfl (set5_row HZ5.out) Try.underlying27 rfl (by kernel_rfl)) rfl ?_
  have hlt4 := row_lt _ _ _ HZ3.out
  exact ⟨_, _, _, _, _, rfl, ObR.keep (fun y hy => heap_set5 (by have := hy.1; omega)) (fun y hy => ⟨Nat.le_trans HB3.out.size hy.1, by rw [size_set5]; exact hy.2⟩) _ HOB.out, below_set5 (HB3.out.trans (HB5.out.mono HB3.out.size)) (Nat.le_succ _)⟩
set_option maxHeartbeats 4000000 in
theorem rDropN (x : Ob) (hk : ¬ (x.kind = 7 ∨ x.kind = 8)) (hok : okO x) (vK : Value) (S : Nat → Prop) (w : World) (c0 c1 c2 c3 c4 : Value) (hx : ObR w S x c0 c1 c2 c3 c4) (hS : ∀ g, S g → g < w.heap.size) :
    Calls Try.prog 33 #[.agg #[c0, c1, c2, c3, c4], vK] w (CpP w x) := by
  obtain ⟨k, n, A2, m2, d2, A3, m3, d3, A4, m4, d4, rfl, rfl, rfl, rfl, rfl⟩ := hx.form
  have hkk := kind_c0 hx
  injection hkk with _ hkk
  rw [← hkk] at hk
  have hb2 := ((Below.refl w.heap.size w).alloc (Nat.le_refl _) (.cells #[.int .i64 k, .int .i64 n, .slice A2 m2 d2, .slice A3 m3 d3, .slice A4 m4 d4] 27)).alloc (by simp) (.cells #[.int .i64 0, .int .i64 0, .slice none 0 0, .slice none 0 0, .slice none 0 0] 27)
  have hn2 := heap_alloc2_new w (.cells #[.int .i64 k, .int .i64 n, .slice A2 m2 d2, .slice A3 m3 d3, .slice A4 m4 d4] 27) (.cells #[.int .i64 0, .int .i64 0, .slice none 0 0, .slice none 0 0, .slice none 0 0] 27)
  have hn1 : ((w.alloc (.cells #[.int .i64 k, .int .i64 n, .slice A2 m2 d2, .slice A3 m3 d3, .slice A4 m4 d4] 27)).alloc (.cells #[.int .i64 0, .int .i64 0, .slice none 0 0, .slice none 0 0, .slice none 0 0] 27)).heap[w.heap.size]? = some (.cells #[.int .i64 k, .int .i64 n, .slice A2 m2 d2, .slice A3 m3 d3, .slice A4 m4 d4] 27) := by
    rw [heap_alloc_old _ _ (by simp)]; exact heap_alloc_new w _
  obtain ⟨W2, hW2⟩ : ∃ W2, (w.alloc (.cells #[.int .i64 k, .int .i64 n, .slice A2 m2 d2, .slice A3 m3 d3, .slice A4 m4 d4] 27)).alloc (.cells #[.int .i64 0, .int .i64 0, .slice none 0 0, .slice none 0 0, .slice none 0 0] 27) = W2 := ⟨_, rfl⟩
  rw [hW2] at hb2 hn2 hn1
  have hhs := fun W' => hasC k (.int .i64 n) (.slice A2 m2 d2) (.slice A3 m3 d3) (.slice A4 m4 d4) W'
  simp only [decide_eq_false hk] at hhs
  have HHS := Lib.hid hhs
  have HCY := Lib.hid (copyC _ x (Nat.le_refl _) hok S W2 _ _ _ _ _ (ObR.keep (fun y hy => hb2.block y (hS y hy)) (fun _ h => h) _ hx) (fun y hy => Nat.lt_of_lt_of_le (hS y hy) hb2.size))
  have m0 := cell_of_row W2 w.heap.size 0 _ _ (0, 0) hn1
  have m1 := cell_of_row W2 w.heap.size 1 _ _ (0, 0) hn1
  have m2' := cell_of_row W2 w.heap.size 2 _ _ (0, 0) hn1
  have m3' := cell_of_row W2 w.heap.size 3 _ _ (0, 0) hn1
  have m4' := cell_of_row W2 w.heap.size 4 _ _ (0, 0) hn1
  have HB2 := Lib.hid hb2
  have HN1 := Lib.hid hn1
  have HN2 := Lib.hid hn2
  have HW2 := Lib.hid hW2
  clear hx hS hok hb2 hn2 hn1 hW2 hk hkk hhs
  go_enter Try.func33, Try.ntmps33
  go_upto_region 1 with fail
  rw [HW2.out]
  go_upto_region 2 with (go_at_call 29; refine HCY.out.mono ?_; (rintro r w3 ⟨e0, e1, e2, e3, e4, rfl, hob, hb3⟩); (obtain ⟨k5, n5, A5, m5, e5, A6, m6, e6, A8, m8, e8, rfl, rfl, rfl, rfl, rfl⟩ := hob.form); have HOB := Lib.hid hob; have HB3 := Lib.hid hb3; have HN13 := Lib.hid (blk_keep9 hb3 HN1.out); have HZ3 := Lib.hid (blk_keep9 hb3 HN2.out); clear hob hb3 m0 m1 m2' m3' m4')
  have hb4 := (Below.refl w3.heap.size w3).alloc (Nat.le_refl _) (.cells #[.int .i64 k5, .int .i64 n5, .slice A5 m5 e5, .slice A6 m6 e6, .slice A8 m8 e8] 27)
  have hn4 := heap_alloc_new w3 (.cells #[.int .i64 k5, .int .i64 n5, .slice A5 m5 e5, .slice A6 m6 e6, .slice A8 m8 e8] 27)
  obtain ⟨W4, hW4⟩ : ∃ W4, w3.alloc (.cells #[.int .i64 k5, .int .i64 n5, .slice A5 m5 e5, .slice A6 m6 e6, .slice A8 m8 e8] 27) = W4 := ⟨_, rfl⟩
  rw [hW4] at hb4 hn4
  rw [hW4]
  obtain ⟨q0, q1, q2, q3, q4, -⟩ := row5_of (blk_keep9 hb4 HN13.out)
  have HB4 := Lib.hid hb4
  have HN4 := Lib.hid hn4
  have HZ4 := Lib.hid (blk_keep9 hb4 HZ3.out)
  clear hb4 hn4 hW4
  go_wp2_with (go_at_call 52; refine (HHS.out _).mono ?_; (rintro r w5 ⟨rfl, hb5⟩); have HN5 := Lib.hid (blk_keep9 hb5 HN4.out); have HZ5 := Lib.hid (blk_keep9 hb5 HZ4.out); have HB5 := Lib.hid hb5; (obtain ⟨s0, s1, s2, s3, s4, -⟩ := row5_of HN5.out); (obtain ⟨r0, r1, r2, r3, r4, r5⟩ := zero_cells HZ5.out); clear hb5 q0 q1 q2 q3 q4)
  refine bodyPost_ret (results_cell_row rfl _ _ (w.heap.size + 1) 27 _ (0, 0) _ rfl (set5_row HZ5.out) Try.underlying27 rfl (by kernel_rfl)) rfl ?_
  have hlt4 := row_lt _ _ _ HN2.out
  have hb35 := HB3.out.trans ((HB4.out.trans (HB5.out.mono HB4.out.size)).mono HB3.out.size)
  exact ⟨_, _, _, _, _, rfl, ObR.keep (fun y hy => (heap_set5 (by have := hy.1; omega)).trans ((HB5.out.block y (Nat.lt_of_lt_of_le hy.2 HB4.out.size)).trans (HB4.out.block y hy.2))) (fun y hy => ⟨Nat.le_trans HB2.out.size hy.1, by rw [size_set5]; exact Nat.lt_of_lt_of_le (Nat.lt_of_lt_of_le hy.2 HB4.out.size) HB5.out.size⟩) _ HOB.out, below_set5 (HB2.out.trans (hb35.mono HB2.out.size)) (Nat.le_succ _)⟩
set_option maxHeartbeats 4000000 in
theorem rSetN (x : Ob) (hk : ¬ (x.kind = 7 ∨ x.kind = 8)) (hok : okO x) (vK : Value) (S : Nat → Prop) (w : World) (c0 c1 c2 c3 c4 : Value) (hx : ObR w S x c0 c1 c2 c3 c4) (hS : ∀ g, S g → g < w.heap.size) :
    Calls Try.prog 31 #[.agg #[c0, c1, c2, c3, c4], vK] w (CpP w x) := by
  obtain ⟨k, n, A2, m2, d2, A3, m3, d3, A4, m4, d4, rfl, rfl, rfl, rfl, rfl⟩ := hx.form
  have hkk := kind_c0 hx
  injection hkk with _ hkk
  rw [← hkk] at hk
  have hb2 := ((Below.refl w.heap.size w).alloc (Nat.le_refl _) (.cells #[.int .i64 k, .int .i64 n, .slice A2 m2 d2, .slice A3 m3 d3, .slice A4 m4 d4] 27)).alloc (by simp) (.cells #[.int .i64 0, .int .i64 0, .slice none 0 0, .slice none 0 0, .slice none 0 0] 27)
  have hn2 := heap_alloc2_new w (.cells #[.int .i64 k, .int .i64 n, .slice A2 m2 d2, .slice A3 m3 d3, .slice A4 m4 d4] 27) (.cells #[.int .i64 0, .int .i64 0, .slice none 0 0, .slice none 0 0, .slice none 0 0] 27)
  have hn1 : ((w.alloc (.cells #[.int .i64 k, .int .i64 n, .slice A2 m2 d2, .slice A3 m3 d3, .slice A4 m4 d4] 27)).alloc (.cells #[.int .i64 0, .int .i64 0, .slice none 0 0, .slice none 0 0, .slice none 0 0] 27)).heap[w.heap.size]? = some (.cells #[.int .i64 k, .int .i64 n, .slice A2 m2 d2, .slice A3 m3 d3, .slice A4 m4 d4] 27) := by
    rw [heap_alloc_old _ _ (by simp)]; exact heap_alloc_new w _
  obtain ⟨W2, hW2⟩ : ∃ W2, (w.alloc (.cells #[.int .i64 k, .int .i64 n, .slice A2 m2 d2, .slice A3 m3 d3, .slice A4 m4 d4] 27)).alloc (.cells #[.int .i64 0, .int .i64 0, .slice none 0 0, .slice none 0 0, .slice none 0 0] 27) = W2 := ⟨_, rfl⟩
  rw [hW2] at hb2 hn2 hn1
  have hhs := fun W' => hasC k (.int .i64 n) (.slice A2 m2 d2) (.slice A3 m3 d3) (.slice A4 m4 d4) W'
  simp only [decide_eq_false hk] at hhs
  have HHS := Lib.hid hhs
  have HCY := Lib.hid (copyC _ x (Nat.le_refl _) hok S W2 _ _ _ _ _ (ObR.keep (fun y hy => hb2.block y (hS y hy)) (fun _ h => h) _ hx) (fun y hy => Nat.lt_of_lt_of_le (hS y hy) hb2.size))
  have m0 := cell_of_row W2 w.heap.size 0 _ _ (0, 0) hn1
  have m1 := cell_of_row W2 w.heap.size 1 _ _ (0, 0) hn1
  have m2' := cell_of_row W2 w.heap.size 2 _ _ (0, 0) hn1
  have m3' := cell_of_row W2 w.heap.size 3 _ _ (0, 0) hn1
  have m4' := cell_of_row W2 w.heap.size 4 _ _ (0, 0) hn1
  have HB2 := Lib.hid hb2
  have HN1 := Lib.hid hn1
  have HN2 := Lib.hid hn2
  have HW2 := Lib.hid hW2
  clear hx hS hok hb2 hn2 hn1 hW2 hk hkk hhs
  go_enter Try.func31, Try.ntmps31
  go_upto_region 1 with fail
  rw [HW2.out]
  go_upto_region 2 with (go_at_call 29; refine HCY.out.mono ?_; (rintro r w3 ⟨e0, e1, e2, e3, e4, rfl, hob, hb3⟩); (obtain ⟨k5, n5, A5, m5, e5, A6, m6, e6, A8, m8, e8, rfl, rfl, rfl, rfl, rfl⟩ := hob.form); have HOB := Lib.hid hob; have HB3 := Lib.hid hb3; have HN13 := Lib.hid (blk_keep9 hb3 HN1.out); have HZ3 := Lib.hid (blk_keep9 hb3 HN2.out); clear hob hb3 m0 m1 m2' m3' m4')
  have hb4 := (Below.refl w3.heap.size w3).alloc (Nat.le_refl _) (.cells #[.int .i64 k5, .int .i64 n5, .slice A5 m5 e5, .slice A6 m6 e6, .slice A8 m8 e8] 27)
  have hn4 := heap_alloc_new w3 (.cells #[.int .i64 k5, .int .i64 n5, .slice A5 m5 e5, .slice A6 m6 e6, .slice A8 m8 e8] 27)
  obtain ⟨W4, hW4⟩ : ∃ W4, w3.alloc (.cells #[.int .i64 k5, .int .i64 n5, .slice A5 m5 e5, .slice A6 m6 e6, .slice A8 m8 e8] 27) = W4 := ⟨_, rfl⟩
  rw [hW4] at hb4 hn4
  rw [hW4]
  obtain ⟨q0, q1, q2, q3, q4, -⟩ := row5_of (blk_keep9 hb4 HN13.out)
  have HB4 := Lib.hid hb4
  have HN4 := Lib.hid hn4
  have HZ4 := Lib.hid (blk_keep9 hb4 HZ3.out)
  clear hb4 hn4 hW4
  go_wp2_with (go_at_call 52; refine (HHS.out _).mono ?_; (rintro r w5 ⟨rfl, hb5⟩); have HN5 := Lib.hid (blk_keep9 hb5 HN4.out); have HZ5 := Lib.hid (blk_keep9 hb5 HZ4.out); have HB5 := Lib.hid hb5; (obtain ⟨s0, s1, s2, s3, s4, -⟩ := row5_of HN5.out); (obtain ⟨r0, r1, r2, r3, r4, r5⟩ := zero_cells HZ5.out); clear hb5 q0 q1 q2 q3 q4)
  refine bodyPost_ret (results_cell_row rfl _ _ (w.heap.size + 1) 27 _ (0, 0) _ rfl (set5_row HZ5.out) Try.underlying27 rfl (by kernel_rfl)) rfl ?_
  have hlt4 := row_lt _ _ _ HN2.out
  have hb35 := HB3.out.trans ((HB4.out.trans (HB5.out.mono HB4.out.size)).mono HB3.out.size)
  exact ⟨_, _, _, _, _, rfl, ObR.keep (fun y hy => (heap_set5 (by have := hy.1; omega)).trans ((HB5.out.block y (Nat.lt_of_lt_of_le hy.2 HB4.out.size)).trans (HB4.out.block y hy.2))) (fun y hy => ⟨Nat.le_trans HB2.out.size hy.1, by rw [size_set5]; exact Nat.lt_of_lt_of_le (Nat.lt_of_lt_of_le hy.2 HB4.out.size) HB5.out.size⟩) _ HOB.out, below_set5 (HB2.out.trans (hb35.mono HB2.out.size)) (Nat.le_succ _)⟩
theorem dropF_toL : ∀ (ks : List ByteArray) (d : Ens), (dropF ks d).toL = d.toL.filter (fun p => !(anyK ks p.1))
  | [], d => by
    rw [dropF]
    exact (List.filter_eq_self.2 (fun p _ => rfl)).symm
  | t :: ts, d => by
    rw [dropF, dropF_toL ts, with_true, List.filter_filter]
    congr 1
    funext p
    rw [anyK_cons]
    by_cases h : p.1 = t
    · simp [h]
    · simp [h]
      intro _ e
      exact h e.symm
theorem dropF_E (ks : List ByteArray) (d : Ens) : dropF ks d = dropE ks d := by
  unfold dropE
  rw [← dropF_toL, Ens.of_to]
end

section
open Go.RowKit Go.Sort
set_option linter.unusedVariables false
set_option maxRecDepth 100000
mutual
theorem wdO_up {W W' : Nat} (h : W ≤ W') : ∀ x : Ob, wdO W x → wdO W' x
  | .mk k n b l d, hx => by
    unfold wdO at hx ⊢
    exact ⟨hx.1, Nat.le_trans hx.2.1 h, wdL_up h l hx.2.2.1, wdE_up h d hx.2.2.2⟩
theorem wdL_up {W W' : Nat} (h : W ≤ W') : ∀ l : Obs, wdL W l → wdL W' l
  | .nil, _ => by unfold wdL; trivial
  | .cons x xs, hx => by
    unfold wdL at hx ⊢
    exact ⟨wdO_up h x hx.1, wdL_up h xs hx.2⟩
theorem wdE_up {W W' : Nat} (h : W ≤ W') : ∀ d : Ens, wdE W d → wdE W' d
  | .nil, _ => by unfold wdE; trivial
  | .cons s x xs, hx => by
    unfold wdE at hx ⊢
    exact ⟨wdO_up h x hx.1, wdE_up h xs hx.2⟩
end
theorem okE_iff : ∀ d : Ens, okE d ↔ ∀ p ∈ d.toL, okO p.2
  | .nil => by unfold okE; simp [Ens.toL]
  | .cons s x xs => by
    unfold okE
    rw [okE_iff xs, Ens.toL]
    simp only [List.mem_cons, forall_eq_or_imp]
theorem may_keys : ∀ (d : Ens) (pv : Option ByteArray) (e : Int), mayE d pv e = true → ∀ p ∈ d.toL, p.1.size ≤ maxLen
  | .nil, pv, e, _, p, hp => by cases hp
  | .cons s x xs, pv, e, h, p, hp => by
    rw [mayE] at h
    split at h
    · rename_i hc
      rcases List.mem_cons.1 (show p ∈ (s, x) :: xs.toL from hp) with rfl | hp
      · have h1 := hc.1
        unfold nameS nameZ at h1
        split at h1
        · cases h1
        · rename_i h2
          rw [strZ_len] at h2
          show s.size ≤ maxLen
          simp only [maxLen]
          omega
      · exact may_keys xs _ e h p hp
    · cases h
theorem may_vals : ∀ (d : Ens) (pv : Option ByteArray) (e : Int), mayE d pv e = true → ∀ p ∈ d.toL, mayO p.2 (e - 1) = true
  | .nil, pv, e, _, p, hp => by cases hp
  | .cons s x xs, pv, e, h, p, hp => by
    rw [mayE] at h
    split at h
    · rename_i hc
      rcases List.mem_cons.1 (show p ∈ (s, x) :: xs.toL from hp) with rfl | hp
      · exact hc.2.2.2.2
      · exact may_vals xs _ e h p hp
    · cases h
/-- One entry within measure. -/
def OkP (p : KV) : Prop := wdO 100 p.2 ∧ htO p.2 ≤ 9 ∧ okO p.2 ∧ fitO p.2 ∧ p.1.size ≤ maxLen ∧ 0 ≤ p.2.kind ∧ p.2.kind ≤ 9
/-- An object within measure. -/
structure OkX (x : Ob) : Prop where
  wd : wdO 100 x
  ht : htO x ≤ 10
  ok : okO x
  fit : fitO x
  keys : ∀ p ∈ (keyedE x).toL, OkP p
theorem dict_mem0 : ∀ (l acc : Ens), SS acc.toL → ∀ p ∈ (dictF l acc).toL, p ∈ acc.toL ∨ p ∈ l.toL
  | .nil, acc, _, p, hp => .inl hp
  | .cons s x xs, acc, h, p, hp => by
    rw [dictF] at hp
    rcases dict_mem0 xs _ (with_ss s x acc _ h) p hp with h1 | h1
    · cases hb : decide (x.kind = 0) with
      | true => rw [hb, with_true] at h1; exact .inl (List.mem_filter.1 h1).1
      | false =>
        rw [hb, with_false s x acc h] at h1
        rcases List.mem_append.1 h1 with h1 | h1
        · exact .inl (List.mem_filter.1 h1).1
        · rcases List.mem_cons.1 h1 with rfl | h1
          · exact .inr (List.mem_cons_self ..)
          · exact .inl (List.mem_filter.1 h1).1
    · exact .inr (List.mem_cons_of_mem _ h1)
/-- The same object with other entries. -/
theorem okx_mk {k n : Int} {b : List Int} {d D : Ens} (h : OkX (.mk k n b .nil d)) (hk : k = 7 ∨ k = 8) (hD : ∀ p ∈ D.toL, OkP p) (hS : SS D.toL) (hl : D.len ≤ 100) : OkX (.mk k n b .nil D) := by
  obtain ⟨h1, h2, h3, h4, h5⟩ := h
  unfold wdO at h1
  unfold okO at h3
  unfold fitO at h4
  refine ⟨?_, ?_, ?_, ?_, fun p hp => ?_⟩
  · unfold wdO
    exact ⟨h1.1, by simp only [Obs.len]; omega, by unfold wdL; trivial, (wdE_iff 100 D).2 fun p hp => (hD p hp).1⟩
  · have := htE_le 9 D (fun p hp => (hD p hp).2.1)
    rw [htO, htL]; omega
  · unfold okO
    exact ⟨h3.1, by simp [Obs.len], by omega, by unfold okL; trivial, (okE_iff D).2 fun p hp => (hD p hp).2.2.1⟩
  · unfold fitO
    exact ⟨⟨h4.1.1, .inl rfl, .inr hk, h4.1.2.2.2⟩, h4.2.1, hS, by unfold fitL; trivial, (fitE_iff D).2 fun p hp => (hD p hp).2.2.2.1⟩
  · dsimp only [keyedE] at hp
    rw [if_pos hk] at hp
    exact hD p hp
def setO (l : Ens) : Ob → Ob
  | .mk k n b lo d => if k = 7 ∨ k = 8 then .mk k n b lo (dictF l d) else .mk k n b lo d
def dropO (ks : List ByteArray) : Ob → Ob
  | .mk k n b lo d => if k = 7 ∨ k = 8 then .mk k n b lo (dropE ks d) else .mk k n b lo d
theorem fit_nil {k n : Int} {b : List Int} {lo : Obs} {d : Ens} (h : fitO (.mk k n b lo d)) (hk : k = 7 ∨ k = 8) : lo = .nil := by
  unfold fitO at h
  rcases h.1.2.1 with h | h
  · exact h
  · omega
theorem drop_toL (ks : List ByteArray) (d : Ens) : (dropE ks d).toL = d.toL.filter (fun p => !(anyK ks p.1)) := by unfold dropE; rw [Ens.to_of]
theorem okx_drop (ks : List ByteArray) {x : Ob} (h : OkX x) : OkX (dropO ks x) := by
  obtain ⟨k, n, b, lo, d⟩ := x
  dsimp only [dropO]
  split
  · rename_i hk
    have hn := fit_nil h.fit hk
    subst hn
    have hf := h.fit
    unfold fitO at hf
    have hke : ∀ p ∈ d.toL, OkP p := fun p hp => h.keys p (by dsimp only [keyedE]; rw [if_pos hk]; exact hp)
    have hw := h.wd
    unfold wdO at hw
    refine okx_mk h hk (fun p hp => ?_) ?_ ?_
    · rw [drop_toL] at hp; exact hke p (List.mem_filter.1 hp).1
    · rw [drop_toL]; exact hf.2.2.1.filter _
    · rw [← Ens.toL_len, drop_toL]
      have := List.length_filter_le (fun p : KV => !(anyK ks p.1)) d.toL
      rw [Ens.toL_len] at this
      omega
  · exact h
theorem okx_set (l : Ens) {x : Ob} (h : OkX x) (hl : ∀ p ∈ l.toL, OkP p) (hlen : ∀ k n b lo d, x = .mk k n b lo d → d.len + l.len ≤ 100) : OkX (setO l x) := by
  obtain ⟨k, n, b, lo, d⟩ := x
  dsimp only [setO]
  split
  · rename_i hk
    have hn := fit_nil h.fit hk
    subst hn
    have hf := h.fit
    unfold fitO at hf
    have hke : ∀ p ∈ d.toL, OkP p := fun p hp => h.keys p (by dsimp only [keyedE]; rw [if_pos hk]; exact hp)
    refine okx_mk h hk (fun p hp => ?_) (dict_ss l d hf.2.2.1) ?_
    · rcases dict_mem0 l d hf.2.2.1 p hp with h1 | h1
      · exact hke p h1
      · exact hl p h1
    · have := dictF_len0 l d
      have := hlen k n b .nil d rfl
      omega
  · exact h
section
variable {x : Ob} {l : Ens} {A : Option Addr} {c : Nat} {S Sl : Nat → Prop} {w : World} {c0 c1 c2 c3 c4 : Value}
theorem pSetU (h : OkX x) (hl : ∀ p ∈ l.toL, OkP p) (hll : l.len ≤ 30) (hx : ObR w S x c0 c1 c2 c3 c4) (hS : ∀ g, S g → g < w.heap.size) (hL : EnsV w Sl l A c) (hSl : ∀ g, Sl g → g < w.heap.size) :
    Calls Try.prog 30 #[.agg #[c0, c1, c2, c3, c4], .slice A l.len c] w (CpP w (setO l x)) := by
  have hd := okx_drop (keysB l) h
  obtain ⟨k, n, b, lo, d⟩ := x
  dsimp only [setO]
  dsimp only [dropO] at hd
  by_cases hk : k = 7 ∨ k = 8
  · rw [if_pos hk]
    rw [if_pos hk] at hd
    have hn := fit_nil h.fit hk
    subst hn
    have hf := h.fit
    unfold fitO at hf
    have hw := h.wd
    unfold wdO at hw
    have hke : ∀ p ∈ d.toL, OkP p := fun p hp => h.keys p (by dsimp only [keyedE]; rw [if_pos hk]; exact hp)
    exact pSetG 100 k n hk b d l A c S Sl w c0 c1 c2 c3 c4 hx hS hL hSl (by omega) (fun p hp => (hl p hp).2.2.2.2.1) (fun p hp => (hke p hp).2.2.2.2.1) (by omega) hf.2.2.1 hd.wd (by have := hd.ht; omega) (fun p hp => (hl p hp).2.2.2.2.2) ((wdE_iff 100 l).2 fun p hp => (hl p hp).1) (by omega) (by have := htE_le 9 l (fun p hp => (hl p hp).2.1); omega) (by omega)
  · rw [if_neg hk]
    exact pSetN 100 (.mk k n b lo d) hk _ S w c0 c1 c2 c3 c4 hx hS h.wd (by have := h.ht; omega)
theorem rSetU (h : OkX x) (hl : ∀ p ∈ l.toL, OkP p) (hll : l.len ≤ 30) (hx : ObR w S x c0 c1 c2 c3 c4) (hS : ∀ g, S g → g < w.heap.size) (hL : EnsV w Sl l A c) (hSl : ∀ g, Sl g → g < w.heap.size) :
    Calls Try.prog 31 #[.agg #[c0, c1, c2, c3, c4], .slice A l.len c] w (CpP w (setO l x)) := by
  obtain ⟨k, n, b, lo, d⟩ := x
  dsimp only [setO]
  by_cases hk : k = 7 ∨ k = 8
  · rw [if_pos hk]
    have hw := h.wd
    unfold wdO at hw
    exact rSetG k n hk b lo d l A c S Sl w c0 c1 c2 c3 c4 hx hS hL hSl ((okE_iff l).2 fun p hp => (hl p hp).2.2.1) (by omega) h.ok (by omega)
  · rw [if_neg hk]
    exact rSetN (.mk k n b lo d) hk h.ok _ S w c0 c1 c2 c3 c4 hx hS
variable {ks : List ByteArray}
theorem pDropU (h : OkX x) (hK : KeysV w A ks) (hkl : ks.length ≤ 30) (hks : ∀ t ∈ ks, t.size ≤ maxLen) (hx : ObR w S x c0 c1 c2 c3 c4) (hS : ∀ g, S g → g < w.heap.size) :
    Calls Try.prog 32 #[.agg #[c0, c1, c2, c3, c4], .slice A ks.length c] w (CpP w (dropO ks x)) := by
  have hd := okx_drop ks h
  obtain ⟨k, n, b, lo, d⟩ := x
  dsimp only [dropO] at hd ⊢
  by_cases hk : k = 7 ∨ k = 8
  · rw [if_pos hk] at hd ⊢
    have hw := h.wd
    unfold wdO at hw
    have hke : ∀ p ∈ d.toL, OkP p := fun p hp => h.keys p (by dsimp only [keyedE]; rw [if_pos hk]; exact hp)
    exact (pDropG 100 k n hk b lo d ks A c S w c0 c1 c2 c3 c4 hx hS hK (by omega) hks (fun p hp => (hke p hp).2.2.2.2.1) (by omega) hd.wd (by have := hd.ht; omega)).mono fun r w' ⟨d0, d1, d2, d3, d4, e, h, hb, _⟩ => ⟨d0, d1, d2, d3, d4, e, h, hb⟩
  · rw [if_neg hk]
    exact pDropN 100 (.mk k n b lo d) hk _ S w c0 c1 c2 c3 c4 hx hS h.wd (by have := h.ht; omega)
theorem rDropU (h : OkX x) (hK : KeysV w A ks) (hkl : ks.length ≤ 30) (hx : ObR w S x c0 c1 c2 c3 c4) (hS : ∀ g, S g → g < w.heap.size) :
    Calls Try.prog 33 #[.agg #[c0, c1, c2, c3, c4], .slice A ks.length c] w (CpP w (dropO ks x)) := by
  obtain ⟨k, n, b, lo, d⟩ := x
  dsimp only [dropO]
  by_cases hk : k = 7 ∨ k = 8
  · rw [if_pos hk, ← dropF_E]
    have hw := h.wd
    unfold wdO at hw
    exact rDropG k n hk b lo d ks A c S w c0 c1 c2 c3 c4 hx hS hK (by omega) h.ok (by omega)
  · rw [if_neg hk]
    exact rDropN (.mk k n b lo d) hk h.ok _ S w c0 c1 c2 c3 c4 hx hS
theorem pGetU (h : OkX x) (key : ByteArray) (hx : ObR w S x c0 c1 c2 c3 c4) (hS : ∀ g, S g → g < w.heap.size) :
    Calls Try.prog 35 #[.agg #[c0, c1, c2, c3, c4], .string key] w (CpP w (getF x key)) := by
  refine pGetC 100 x key S w c0 c1 c2 c3 c4 hx hS ((wdE_iff 100 _).2 fun p hp => (h.keys p hp).1) (by have := htE_le 9 _ (fun p hp => (h.keys p hp).2.1); omega) ?_
  obtain ⟨k, n, b, lo, d⟩ := x
  have hw := h.wd
  unfold wdO at hw
  dsimp only [keyedE]
  split
  · omega
  · simp [Ens.len]
theorem rGetU (h : OkX x) (key : ByteArray) (hx : ObR w S x c0 c1 c2 c3 c4) (hS : ∀ g, S g → g < w.heap.size) :
    Calls Try.prog 36 #[.agg #[c0, c1, c2, c3, c4], .string key] w (CpP w (getF x key)) :=
  refGetC x key S w c0 c1 c2 c3 c4 hx hS ((okE_iff _).2 fun p hp => (h.keys p hp).2.2.1)
end
theorem get_drop (ks : List ByteArray) (x : Ob) (t : ByteArray) (ht : t ∈ ks) : getF (dropO ks x) t = zeroOb := by
  obtain ⟨k, n, b, lo, d⟩ := x
  dsimp only [dropO, getF]
  by_cases hk : k = 7 ∨ k = 8
  · rw [if_pos hk]
    dsimp only [keyedE]
    rw [if_pos hk, drop_toL, show (fun p : KV => !(anyK ks p.1)) = (fun p : KV => (fun s => !(anyK ks s)) p.1) from rfl, lk_filter (fun s => !(anyK ks s))]
    have : anyK ks t = true := by
      unfold anyK
      exact List.any_eq_true.2 ⟨t, ht, by simp⟩
    rw [this]
    rfl
  · rw [if_neg hk]
    dsimp only [keyedE]
    rw [if_neg hk]
    rfl
theorem okx_may {w : World} {S : Nat → Prop} {x : Ob} {c0 c1 c2 c3 c4 : Value} (hx : ObR w S x c0 c1 c2 c3 c4) (hm : mayO x 28 = true) (hr : roomO x 8 60 = true) : OkX x ∧ ∀ k n b lo d, x = .mk k n b lo d → d.len ≤ 60 := by
  obtain ⟨h1, h2, h3⟩ := roomW 60 (by omega) x c0 c1 c2 c3 c4 28 8 hx hm hr
  have hf := may_fit x 28 hm
  refine ⟨⟨wdO_up (by omega) x h1, by omega, h3, hf, fun p hp => ?_⟩, fun k n b lo d e => ?_⟩
  · obtain ⟨k, n, b, lo, d⟩ := x
    dsimp only [keyedE] at hp
    split at hp
    · rename_i hk
      unfold wdO at h1
      unfold okO at h3
      unfold fitO at hf
      have hh : htE d ≤ 8 := by rw [htO] at h2; omega
      have hmy : mayE d none 28 = true := by
        unfold mayO at hm
        split at hm
        · cases hm
        · rcases hk with rfl | rfl
          all_goals
            simp at hm
            exact hm.2.2
      exact ⟨(wdE_iff 100 d).1 (wdE_up (by omega) d h1.2.2.2) p hp, Nat.le_trans (htE_ge d p hp) (by omega), (okE_iff d).1 h3.2.2.2.2 p hp, (fitE_iff d).1 hf.2.2.2.2 p hp, may_keys d none 28 hmy p hp, may_kind (may_vals d none 28 hmy p hp)⟩
    · cases hp
  · subst e
    unfold wdO at h1
    omega
end
end Go.Proofs.Ytdkmomdioiipjaa
