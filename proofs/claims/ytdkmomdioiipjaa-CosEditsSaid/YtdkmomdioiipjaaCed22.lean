/- Contracts of functions that the law calls, and what they lean on (a part). -/
import Derived.Test.YtdkmomdioiipjaaCed15
namespace Go.Proofs.Ytdkmomdioiipjaa
section
open Go.RowKit Go.Sort
set_option linter.unusedVariables false
set_option maxRecDepth 100000
theorem mayE_ss : ∀ (d : Ens) (pv : Option ByteArray) (e : Int), mayE d pv e = true → SS d.toL ∧ ∀ p, pv = some p → ∀ q ∈ d.toL, ltS p q.1 = true
  | .nil, pv, e, _ => by rw [Ens.toL]; exact ⟨List.Pairwise.nil, fun p hp q hq => by cases hq⟩
  | .cons s x xs, pv, e, h => by
    rw [mayE] at h
    by_cases h1 : nameS s = true ∧ (∀ p, pv = some p → leS s p = false) ∧ x.kind ≠ 8 ∧ x.kind ≠ 0 ∧ mayO x (e - 1) = true
    · rw [if_pos h1] at h
      obtain ⟨a, b⟩ := mayE_ss xs (some s) e h
      rw [Ens.toL, SS.cons]
      refine ⟨⟨fun q hq => b s rfl q hq, a⟩, fun p hp q hq => ?_⟩
      have hps : ltS p s = true := leS_no (by rw [h1.2.1 p hp]; simp)
      rcases List.mem_cons.1 hq with rfl | hq
      · exact hps
      · exact ltS_trans hps (b s rfl q hq)
    · rw [if_neg h1] at h; cases h
theorem may_fields {k n : Int} {b : List Int} {l : Obs} {d : Ens} {e : Int} (h : mayO (.mk k n b l d) e = true) : (b = [] ∨ k = 4 ∨ k = 5 ∨ k = 8) ∧ (l = .nil ∨ k = 6) ∧ (d = .nil ∨ k = 7 ∨ k = 8) ∧ (n = 0 ∨ k = 1 ∨ k = 2 ∨ k = 3 ∨ k = 9) := by
  rw [mayO] at h
  by_cases hb : badF k b.length l.len d.len = true
  · rw [if_pos hb] at h; cases h
  rw [if_neg hb] at h
  refine ⟨?_, ?_, ?_, ?_⟩
  · rcases Nat.eq_zero_or_pos b.length with h0 | h0
    · exact .inl (List.eq_nil_of_length_eq_zero h0)
    · refine .inr (Classical.byContradiction fun hk => hb ?_)
      unfold badF; exact decide_eq_true (.inr (.inr ⟨h0, fun e => hk (.inl e), fun e => hk (.inr (.inl e)), fun e => hk (.inr (.inr e))⟩))
  · rcases Nat.eq_zero_or_pos l.len with h0 | h0
    · exact .inl (Obs.nil_of h0)
    · refine .inr (Classical.byContradiction fun hk => hb ?_)
      unfold badF; exact decide_eq_true (.inl ⟨h0, hk⟩)
  · rcases Nat.eq_zero_or_pos d.len with h0 | h0
    · exact .inl (Ens.nil_of h0)
    · refine .inr (Classical.byContradiction fun hk => hb ?_)
      unfold badF; exact decide_eq_true (.inr (.inl ⟨h0, fun e => hk (.inl e), fun e => hk (.inr e)⟩))
  · by_cases h1 : k = 1
    · exact .inr (.inl h1)
    by_cases h2 : k = 2
    · exact .inr (.inr (.inl h2))
    by_cases h3 : k = 3
    · exact .inr (.inr (.inr (.inl h3)))
    by_cases h9 : k = 9
    · exact .inr (.inr (.inr (.inr h9)))
    rw [if_neg h1, if_neg h2, if_neg h3, if_neg h9] at h
    by_cases hn : n = 0
    · exact .inl hn
    · rw [if_pos hn] at h; cases h
/- Each field is used by its kind, the entries rise. -/
mutual
def fitO : Ob → Prop
  | .mk k n b l d => ((b = [] ∨ k = 4 ∨ k = 5 ∨ k = 8) ∧ (l = .nil ∨ k = 6) ∧ (d = .nil ∨ k = 7 ∨ k = 8) ∧ (n = 0 ∨ k = 1 ∨ k = 2 ∨ k = 3 ∨ k = 9)) ∧ (0 ≤ k ∧ k ≤ 9) ∧ SS d.toL ∧ fitL l ∧ fitE d
def fitL : Obs → Prop
  | .nil => True
  | .cons x xs => fitO x ∧ fitL xs
def fitE : Ens → Prop
  | .nil => True
  | .cons _ x xs => fitO x ∧ fitE xs
end
/-- The entries of what may be rise. -/
theorem may_ss {k n : Int} {b : List Int} {l : Obs} {d : Ens} {e : Int} (h : mayO (.mk k n b l d) e = true) : SS d.toL := by
  obtain ⟨_, _, p2, _⟩ := may_parts h
  rcases p2 with rfl | p2
  · exact List.Pairwise.nil
  · exact (mayE_ss d none e p2).1
mutual
theorem may_fit : ∀ (x : Ob) (e : Int), mayO x e = true → fitO x
  | .mk k n b l d, e, h => by
    obtain ⟨hk, p1, p2, _⟩ := may_parts h
    unfold fitO
    refine ⟨may_fields h, hk, may_ss h, ?_, ?_⟩
    · rcases p1 with rfl | p1
      · unfold fitL; trivial
      · exact mayL_fit l e p1
    · rcases p2 with rfl | p2
      · unfold fitE; trivial
      · exact mayE_fit d none e p2
theorem mayL_fit : ∀ (l : Obs) (e : Int), mayL l e = true → fitL l
  | .nil, e, h => by unfold fitL; trivial
  | .cons x xs, e, h => by
    rw [mayL] at h
    by_cases q1 : x.kind = 8 ∨ e < 1
    · rw [if_pos q1] at h; cases h
    rw [if_neg q1] at h
    by_cases r1 : mayO x (e - 1) = true
    · rw [if_pos r1] at h
      unfold fitL
      exact ⟨may_fit x _ r1, mayL_fit xs e h⟩
    · rw [if_neg r1] at h; cases h
theorem mayE_fit : ∀ (d : Ens) (pv : Option ByteArray) (e : Int), mayE d pv e = true → fitE d
  | .nil, pv, e, h => by unfold fitE; trivial
  | .cons s x xs, pv, e, h => by
    rw [mayE] at h
    split at h
    · rename_i q1
      unfold fitE
      exact ⟨may_fit x _ q1.2.2.2.2, mayE_fit xs (some s) e h⟩
    · cases h
end
theorem fitE_iff : ∀ d : Ens, fitE d ↔ ∀ p ∈ d.toL, fitO p.2
  | .nil => by unfold fitE; simp [Ens.toL]
  | .cons s x xs => by
    unfold fitE
    rw [fitE_iff xs, Ens.toL, List.forall_mem_cons]
end

section
open Go.RowKit Go.Sort
set_option linter.unusedVariables false
set_option maxRecDepth 100000
theorem row5_cells {W : World} {g : Nat} {z0 z1 z2 z3 z4 : Value} {T : TypeId} (hh : W.heap[g]? = some (.cells #[z0, z1, z2, z3, z4] T (0, 0))) :
    W.cell? ⟨g, 0, none⟩ = some z0 ∧ W.cell? ⟨g, 1, none⟩ = some z1 ∧ W.cell? ⟨g, 2, none⟩ = some z2 ∧ W.cell? ⟨g, 3, none⟩ = some z3 ∧ W.cell? ⟨g, 4, none⟩ = some z4 ∧ (∀ j, W.frozen? ⟨g, j, none⟩ = false) :=
  ⟨cell_of_row _ _ 0 _ _ (0, 0) hh, cell_of_row _ _ 1 _ _ (0, 0) hh, cell_of_row _ _ 2 _ _ (0, 0) hh, cell_of_row _ _ 3 _ _ (0, 0) hh, cell_of_row _ _ 4 _ _ (0, 0) hh, fun j => by simp [World.frozen?, hh]⟩
end

section
open Go.RowKit Go.Sort
set_option linter.unusedVariables false
set_option maxRecDepth 100000
theorem zeroR (w : World) (S : Nat → Prop) : ObR w S zeroOb (.int .i64 0) (.int .i64 0) (.slice none 0 0) (.slice none 0 0) (.slice none 0 0) := by
  unfold ObR
  exact ⟨rfl, rfl, by omega, by omega, ⟨_, _, _, rfl, rfl, by omega, (fun z hz => by cases hz), fun h => absurd h (by omega)⟩, ⟨_, _, rfl, by simp [Obs.len], fun h => absurd h (by simp [Obs.len])⟩, ⟨_, _, rfl, by simp [Ens.len], fun h => absurd h (by simp [Ens.len])⟩⟩
set_option maxHeartbeats 4000000 in
theorem refGetC (x : Ob) (key : ByteArray) (S : Nat → Prop) (w : World) (c0 c1 c2 c3 c4 : Value) (hx : ObR w S x c0 c1 c2 c3 c4) (hS : ∀ g, S g → g < w.heap.size) (hok : okE (keyedE x)) :
    Calls Try.prog 36 #[.agg #[c0, c1, c2, c3, c4], .string key] w (CpP w (getF x key)) := by
  obtain ⟨k, n, b, l, d⟩ := x
  unfold ObR at hx
  obtain ⟨rfl, rfl, hk, hn, ⟨A2, m2, c2, rfl, hB⟩, ⟨A3, c3, rfl, h3, hl⟩, ⟨A4, c4, rfl, h4, hd⟩⟩ := hx
  obtain ⟨LL, hLL⟩ : ∃ LL, l.len = LL := ⟨_, rfl⟩
  obtain ⟨N, hN⟩ : ∃ N, d.len = N := ⟨_, rfl⟩
  have HV : Hid (EnsV w S d A4 c4) := Lib.hid ⟨h4, hd⟩
  have hcap : N ≤ 9223372036854775807 := by rw [← hN]; omega
  rw [hLL, hN]
  have HN := Lib.hid hN
  have HS := Lib.hid hS
  have hb2 := ((Below.refl w.heap.size w).alloc (Nat.le_refl _) (.cells #[.int .i64 k, .int .i64 n, .slice A2 m2 c2, .slice A3 LL c3, .slice A4 N c4] 27)).alloc (by simp) (.cells #[.int .i64 0, .int .i64 0, .slice none 0 0, .slice none 0 0, .slice none 0 0] 27)
  have hn2 := heap_alloc2_new w (.cells #[.int .i64 k, .int .i64 n, .slice A2 m2 c2, .slice A3 LL c3, .slice A4 N c4] 27) (.cells #[.int .i64 0, .int .i64 0, .slice none 0 0, .slice none 0 0, .slice none 0 0] 27)
  have hn1 : ((w.alloc (.cells #[.int .i64 k, .int .i64 n, .slice A2 m2 c2, .slice A3 LL c3, .slice A4 N c4] 27)).alloc (.cells #[.int .i64 0, .int .i64 0, .slice none 0 0, .slice none 0 0, .slice none 0 0] 27)).heap[w.heap.size]? = some (.cells #[.int .i64 k, .int .i64 n, .slice A2 m2 c2, .slice A3 LL c3, .slice A4 N c4] 27) := by
    rw [heap_alloc_old _ _ (by simp)]; exact heap_alloc_new w _
  have hsz : ((w.alloc (.cells #[.int .i64 k, .int .i64 n, .slice A2 m2 c2, .slice A3 LL c3, .slice A4 N c4] 27)).alloc (.cells #[.int .i64 0, .int .i64 0, .slice none 0 0, .slice none 0 0, .slice none 0 0] 27)).heap.size = w.heap.size + 2 := by simp
  obtain ⟨W2, hW2⟩ : ∃ W2, (w.alloc (.cells #[.int .i64 k, .int .i64 n, .slice A2 m2 c2, .slice A3 LL c3, .slice A4 N c4] 27)).alloc (.cells #[.int .i64 0, .int .i64 0, .slice none 0 0, .slice none 0 0, .slice none 0 0] 27) = W2 := ⟨_, rfl⟩
  rw [hW2] at hb2 hn2 hsz hn1
  have HB2 := Lib.hid hb2
  have HKP : Hid (∀ W, Below W2.heap.size W2 W → W.heap[w.heap.size]? = some (.cells #[.int .i64 k, .int .i64 n, .slice A2 m2 c2, .slice A3 LL c3, .slice A4 N c4] 27 (0, 0)) ∧ W.heap[w.heap.size + 1]? = some (.cells #[.int .i64 0, .int .i64 0, .slice none 0 0, .slice none 0 0, .slice none 0 0] 27 (0, 0)) ∧ Below w.heap.size w W ∧ w.heap.size + 2 ≤ W.heap.size) := Lib.hid (fun W hW => ⟨blk_keep9 hW hn1, blk_keep9 hW hn2, hb2.trans (hW.mono hb2.size), by have := hW.size; omega⟩)
  obtain ⟨t0, t1, t2, t3, t4, -⟩ := row5_cells hn1
  have HW2 := Lib.hid hW2
  have HH := Lib.hid (fun W => hasC k (.int .i64 n) (.slice A2 m2 c2) (.slice A3 LL c3) (.slice A4 N c4) W)
  clear hb2 hn2 hsz hn1 hW2 hS hl h3 h4 hd hB hLL hN
  by_cases hkk : k = 7 ∨ k = 8
  · have eD : keyedE (.mk k n b l d) = d := by rw [keyedE, if_pos hkk]
    have HOK : Hid (okE d) := Lib.hid (by rw [eD] at hok; exact hok)
    have eG : getF (.mk k n b l d) key = (lk d.toL key).getD zeroOb := by rw [getF, eD]
    rw [eG]
    have hh := HH.out
    simp only [decide_eq_true hkk] at hh
    have HH2 := Lib.hid hh
    clear hok eD eG hkk HH hh
    go_enter Try.func36, Try.ntmps36
    go_upto_region 1 with fail
    rw [HW2.out]
    go_wp2_with (go_at_call 52; refine (HH2.out _).mono ?_; (rintro r w3 ⟨rfl, hb3⟩); have HB3 := Lib.hid hb3; clear hb3)
    clear t0 t1 t2 t3 t4
    go_loopw [5] (fun iv wr => ∃ i : Nat, i ≤ N ∧ iv = .int .i64 i ∧ Hid (Below W2.heap.size W2 wr) ∧ Hid (∀ j t y, j < i → d.get? j = some (t, y) → t ≠ key)) (fun iv _ => N - (intOf iv).toNat)
    case atStart => exact ⟨0, Nat.zero_le _, rfl, HB3, Lib.hid (fun j t y h => by omega)⟩
    case round =>
      clear HB3
      obtain ⟨i, hi, rfl, HB3, HNO⟩ := hrel
      obtain ⟨hq1, hq2, hq3, hq4⟩ := HKP.out wr HB3.out
      obtain ⟨t0, t1, t2, t3, t4, -⟩ := row5_cells hq1
      have HQ2 := Lib.hid hq2
      have HQ3 := Lib.hid hq3
      have HQ4 := Lib.hid hq4
      by_cases hlt : i < N
      · have hlz : (i : Int) < (N : Int) := by omega
        obtain ⟨sy, y, hy⟩ := d.get_some i (by rw [HN.out]; exact hlt)
        obtain ⟨g, o, eA, hg, hobs⟩ := HV.out.2 (by rw [HN.out]; omega)
        subst eA
        obtain ⟨d0, d1, d2, d3, d4, ks, q0, q1, q2, q3, q4, hyr⟩ := hobs.get d g o i sy y hy
        have e := fun j => World.cell?_of_block (a := ⟨g, j, none⟩) (hq3.block g (HS.out g hg))
        have x0 := (e _).trans ks
        have x1 := (e _).trans q0
        have x2 := (e _).trans q1
        have x3 := (e _).trans q2
        have x4 := (e _).trans q3
        have x5 := (e _).trans q4
        have HY := Lib.hid hy
        have HCP := Lib.hid (copyC _ y (Nat.le_refl _) (okE_get d i sy y HOK.out hy) S wr d0 d1 d2 d3 d4 (ObR.keep (fun b hb => hq3.block b (HS.out b hb)) (fun _ h => h) y hyr) (fun b hb => Nat.lt_of_lt_of_le (HS.out b hb) hq3.size))
        clear hy hobs hg ks q0 q1 q2 q3 q4 hyr e hq1 hq2 hq3 hq4
        by_cases hk2 : sy = key
        · have hbe : (sy.toList == key.toList) = true := by rw [hk2]; simp
          have hlk := lk_get d i sy y HY.out (fun j t z hj hz => by rw [hk2]; exact HNO.out j t z hj hz)
          rw [hk2] at hlk
          have HLK := Lib.hid hlk
          clear hlk hk2
          go_wp2_with (go_at_call 29; refine HCP.out.mono ?_; (rintro r w4 ⟨p0, p1, p2, p3, p4, rfl, hx4, hb4⟩); (obtain ⟨k9, n9, A29, m29, c29, A39, m39, c39, A49, m49, c49, rfl, rfl, rfl, rfl, rfl⟩ := hx4.form); have HX4 := Lib.hid hx4; have HR4 := Lib.hid (blk_keep9 hb4 HQ2.out); have HB4 := Lib.hid (HQ3.out.trans (hb4.mono HQ3.out.size)); (obtain ⟨z0, z1, z2, z3, z4, z5⟩ := zero_cells HR4.out); clear hx4 hb4)
          refine bodyPost_ret (results_cell_row rfl _ _ (w.heap.size + 1) 27 _ (0, 0) _ rfl (set5_row HR4.out) Try.underlying27 rfl (by kernel_rfl)) rfl ?_
          rw [HLK.out, Option.getD_some]
          exact ⟨_, _, _, _, _, rfl, ObR.keep (fun g hg => heap_set5 (by have := HQ4.out; have := hg.1; omega)) (fun g hg => ⟨by have := HQ4.out; have := hg.1; omega, by rw [size_set5]; exact hg.2⟩) _ HX4.out, below_set5 HB4.out (Nat.le_succ _)⟩
        · have hbe : (sy.toList == key.toList) = false := str_ne hk2
          have HNO2 : Hid (∀ j t y, j < i + 1 → d.get? j = some (t, y) → t ≠ key) := Lib.hid (fun j t z hj hz => by
            rcases Nat.lt_or_ge j i with h | h
            · exact HNO.out j t z h hz
            · obtain rfl : j = i := by omega
              rw [HY.out] at hz
              injection hz with hz
              injection hz with hz1 hz2
              rw [← hz1]; exact hk2)
          clear hk2
          go_wp2_with fail
          go_roundw
          case rel => exact ⟨i + 1, by omega, by go_num, HB3, HNO2⟩
          case measure => simp [intOf]; omega
      · obtain rfl : N = i := by omega
        have hln := lk_no d key (fun j t y hj => HNO.out j t y (by
          rcases Nat.lt_or_ge j N with h | h
          · exact h
          · rw [Ens.get_none d j (by rw [HN.out]; exact h)] at hj; cases hj) hj)
        have HLN := Lib.hid hln
        obtain ⟨z0, z1, z2, z3, z4, z5⟩ := zero_cells HQ2.out
        clear hln hq1 hq2 hq3 hq4
        go_wp2_with fail
        refine bodyPost_ret (results_cell_row rfl _ _ (w.heap.size + 1) 27 _ (0, 0) _ rfl (set5_row HQ2.out) Try.underlying27 rfl (by kernel_rfl)) rfl ?_
        rw [HLN.out, Option.getD_none]
        exact ⟨_, _, _, _, _, rfl, zeroR _ _, below_set5 HQ3.out (Nat.le_succ _)⟩
  · have eG : getF (.mk k n b l d) key = zeroOb := by rw [getF, keyedE, if_neg hkk]; rfl
    rw [eG]
    have hh := HH.out
    simp only [decide_eq_false hkk] at hh
    have HH2 := Lib.hid hh
    clear hok eG hkk HH hh
    go_enter Try.func36, Try.ntmps36
    go_upto_region 1 with fail
    rw [HW2.out]
    go_wp2_with (go_at_call 52; refine (HH2.out _).mono ?_; (rintro r w3 ⟨rfl, hb3⟩); (obtain ⟨hq1, hq2, hq3, hq4⟩ := HKP.out w3 hb3); have HQ2 := Lib.hid hq2; have HQ3 := Lib.hid hq3; (obtain ⟨z0, z1, z2, z3, z4, z5⟩ := zero_cells HQ2.out); clear hb3 hq1 hq2 hq3 hq4)
    refine bodyPost_ret (results_cell_row rfl _ _ (w.heap.size + 1) 27 _ (0, 0) _ rfl (set5_row HQ2.out) Try.underlying27 rfl (by kernel_rfl)) rfl ?_
    exact ⟨_, _, _, _, _, rfl, zeroR _ _, below_set5 HQ3.out (Nat.le_succ _)⟩
end
end Go.Proofs.Ytdkmomdioiipjaa
