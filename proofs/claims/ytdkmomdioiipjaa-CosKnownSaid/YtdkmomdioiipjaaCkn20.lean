/- Contracts of functions that the law calls, and what they lean on (a part). -/
import Derived.Laws.BytesArg
import Derived.Test.YtdkmomdioiipjaaCkn16
namespace Go.Proofs.Ytdkmomdioiipjaa
section
open Go.RowKit Go.Sort
set_option linter.unusedVariables false
set_option maxRecDepth 100000
theorem nums_inj : ∀ (xs ys : List Int), (∀ z ∈ xs, 0 ≤ z ∧ z < 256) → (∀ z ∈ ys, 0 ≤ z ∧ z < 256) → (xs.map fun n => UInt8.ofNat n.toNat) = (ys.map fun n => UInt8.ofNat n.toNat) → xs = ys
  | [], [], _, _, _ => rfl
  | [], y :: ys, _, _, h => by simp at h
  | x :: xs, [], _, _, h => by simp at h
  | x :: xs, y :: ys, h1, h2, h => by
    rw [List.map_cons, List.map_cons] at h
    injection h with ha hb
    have hx := h1 x List.mem_cons_self
    have hy := h2 y List.mem_cons_self
    have e := congrArg UInt8.toNat ha
    rw [UInt8.toNat_ofNat', UInt8.toNat_ofNat'] at e
    have e2 : x = y := by omega
    rw [e2, nums_inj xs ys (fun z hz => h1 z (List.mem_cons_of_mem _ hz)) (fun z hz => h2 z (List.mem_cons_of_mem _ hz)) hb]
theorem conv_at {w : World} {S : Nat → Prop} {A : Option Addr} {n c : Nat} {zs : List Int} (h : BytS w S A n c zs) : ∃ s : ByteArray, s.data.toList = (zs.map fun n => UInt8.ofNat n.toNat) ∧ (convert 23 9 (.slice A n c)).run Try.prog w = .ok (.string s) w := by
  rcases Nat.eq_zero_or_pos n with h0 | h0
  · subst h0
    have hz : zs = [] := List.eq_nil_of_length_eq_zero h.1
    subst hz
    refine ⟨⟨#[]⟩, rfl, ?_⟩
    rw [run_convert_bytes_string w 23 9 5 A 0 c Try.underlying23 Try.underlying5 Try.underlying9]
    rcases A with _ | a <;> kernel_rfl
  · obtain ⟨b, o, rfl, hl, hc⟩ := h.2.2.2 h0
    exact ⟨strOfNums zs, rfl, run_convert_bytes_arg w 23 5 Try.underlying23 Try.underlying5 b o n c zs h.1 hc 9 Try.underlying9⟩
theorem bytesEqC {w : World} {S : Nat → Prop} {A B : Option Addr} {n c m c' : Nat} {zs ys : List Int} (h1 : BytS w S A n c zs) (h2 : BytS w S B m c' ys) : Calls Try.prog 69 #[.slice A n c, .slice B m c'] w fun r w' => r = .returned (.bool (decide (zs = ys))) ∧ w = w' := by
  obtain ⟨s, es, hs⟩ := conv_at h1
  obtain ⟨t, et, ht⟩ := conv_at h2
  have hb : (s.toList == t.toList) = decide (zs = ys) := by
    rw [toList_eq, toList_eq, es, et]
    by_cases h : zs = ys
    · subst h; simp
    · rw [decide_eq_false h]
      exact beq_eq_false_iff_ne.2 (fun e => h (nums_inj zs ys h1.2.2.1 h2.2.2.1 e))
  obtain ⟨R, hR⟩ : ∃ R, decide (zs = ys) = R := ⟨_, rfl⟩
  rw [hR] at hb ⊢
  clear h1 h2 es et hR
  go_enter Try.func69, Try.ntmps69
  go_wp2_with (first | exact hs | exact ht)
  go_ret
  exact ⟨rfl, rfl⟩
def keysEq : Ens → Ens → Bool
  | .nil, .nil => true
  | .cons s _ xs, .cons t _ ys => if s = t then keysEq xs ys else false
  | .nil, .cons _ _ _ => false
  | .cons _ _ _, .nil => false
theorem keysEq_len : ∀ a b : Ens, a.len ≠ b.len → keysEq a b = false
  | .nil, .nil, h => absurd rfl h
  | .nil, .cons _ _ _, _ => rfl
  | .cons _ _ _, .nil, _ => rfl
  | .cons s x xs, .cons t y ys, h => by
    rw [keysEq, keysEq_len xs ys (by simpa [Ens.len] using h)]; split <;> rfl
set_option maxHeartbeats 4000000 in
theorem eqFuncC (l1 l2 : Ens) (S : Nat → Prop) (w : World) (A B : Option Addr) (c c' : Nat) (h1 : EnsV w S l1 A c) (h2 : EnsV w S l2 B c') (hS : ∀ g, S g → g < w.heap.size) :
    Calls Try.prog 70 #[.slice A l1.len c, .slice B l2.len c', .func (.func 59) #[] #[]] w fun r w' => r = .returned (.bool (keysEq l1 l2)) ∧ Below w.heap.size w w' := by
  have heg : ∀ args W, (callFunc 59 args).run Try.prog W = .ok (.enter 59 args) W := enters_of Try.func59 (by kernel_rfl) rfl
  obtain ⟨R, hR⟩ : ∃ R, keysEq l1 l2 = R := ⟨_, rfl⟩
  rw [hR]
  obtain ⟨N, hN⟩ : ∃ N, l1.len = N := ⟨_, rfl⟩
  obtain ⟨M, hM⟩ : ∃ M, l2.len = M := ⟨_, rfl⟩
  have HR := Lib.hid hR
  have HN := Lib.hid hN
  have HM := Lib.hid hM
  have H1 := Lib.hid h1
  have H2 := Lib.hid h2
  have HS := Lib.hid hS
  have hcap : N ≤ 9223372036854775807 := by rw [← hN]; have := h1.1; omega
  rw [hN, hM]
  by_cases hNM : N = M
  · subst hNM
    clear hR hN hM h1 h2 hS
    go_enter Try.func70, Try.ntmps70
    go_wp2_with fail
    go_loopw [17] (fun iv wr => ∃ i : Nat, i ≤ N ∧ iv = .int .i64 i ∧ Hid (Below w.heap.size w wr) ∧ Hid (keysEq (l1.dropN i) (l2.dropN i) = R)) (fun iv _ => N - (intOf iv).toNat)
    case atStart => exact ⟨0, Nat.zero_le _, rfl, Lib.hid (Below.refl _ _), Lib.hid (by rw [← HR.out]; cases l1 <;> cases l2 <;> rfl)⟩
    case round =>
      obtain ⟨i, hi, rfl, HB, HQ⟩ := hrel
      by_cases hlt : i < N
      · have hli : (i : Int) < (N : Int) := by omega
        obtain ⟨s1, x1, hx1⟩ := l1.get_some i (by rw [HN.out]; exact hlt)
        obtain ⟨s2, x2, hx2⟩ := l2.get_some i (by rw [HM.out]; exact hlt)
        obtain ⟨g, o, eA, hg, hobs⟩ := H1.out.2 (by rw [HN.out]; omega)
        subst eA
        obtain ⟨g', o', eB, hg', hobs'⟩ := H2.out.2 (by rw [HM.out]; omega)
        subst eB
        obtain ⟨d0, d1, d2, d3, d4, ks, q0, q1, q2, q3, q4, hyr⟩ := hobs.get l1 g o i s1 x1 hx1
        obtain ⟨f0, f1, f2, f3, f4, kt, p0, p1, p2, p3, p4, hzr⟩ := hobs'.get l2 g' o' i s2 x2 hx2
        obtain ⟨k9, n9, A29, m29, c29, A39, m39, c39, A49, m49, c49, rfl, rfl, rfl, rfl, rfl⟩ := hyr.form
        obtain ⟨k8, n8, A28, m28, c28, A38, m38, c38, A48, m48, c48, rfl, rfl, rfl, rfl, rfl⟩ := hzr.form
        have e := fun j => World.cell?_of_block (a := ⟨g, j, none⟩) (HB.out.block g (HS.out g hg))
        have x0 := (e _).trans ks
        have x1' := (e _).trans q0
        have x2' := (e _).trans q1
        have x3 := (e _).trans q2
        have x4 := (e _).trans q3
        have x5 := (e _).trans q4
        have hb4 := (Below.refl wr.heap.size wr).alloc (Nat.le_refl _) (.cells #[.string s1, .int .i64 k9, .int .i64 n9, .slice A29 m29 c29, .slice A39 m39 c39, .slice A49 m49 c49] 32)
        have hn4 := heap_alloc_new wr (.cells #[.string s1, .int .i64 k9, .int .i64 n9, .slice A29 m29 c29, .slice A39 m39 c39, .slice A49 m49 c49] 32)
        obtain ⟨W4, hW4⟩ : ∃ W4, wr.alloc (.cells #[.string s1, .int .i64 k9, .int .i64 n9, .slice A29 m29 c29, .slice A39 m39 c39, .slice A49 m49 c49] 32) = W4 := ⟨_, rfl⟩
        have hz4 : W4.heap.size = wr.heap.size + 1 := by rw [← hW4]; simp
        rw [hW4] at hb4 hn4
        have hww4 := HB.out.trans (hb4.mono HB.out.size)
        have e' := fun j => World.cell?_of_block (a := ⟨g', j, none⟩) (hww4.block g' (HS.out g' hg'))
        have z0 := (e' _).trans kt
        have z1 := (e' _).trans p0
        have z2 := (e' _).trans p1
        have z3 := (e' _).trans p2
        have z4 := (e' _).trans p3
        have z5 := (e' _).trans p4
        have hb5 := (Below.refl W4.heap.size W4).alloc (Nat.le_refl _) (.cells #[.string s2, .int .i64 k8, .int .i64 n8, .slice A28 m28 c28, .slice A38 m38 c38, .slice A48 m48 c48] 32)
        have hn5 := heap_alloc_new W4 (.cells #[.string s2, .int .i64 k8, .int .i64 n8, .slice A28 m28 c28, .slice A38 m38 c38, .slice A48 m48 c48] 32)
        obtain ⟨W5, hW5⟩ : ∃ W5, W4.alloc (.cells #[.string s2, .int .i64 k8, .int .i64 n8, .slice A28 m28 c28, .slice A38 m38 c38, .slice A48 m48 c48] 32) = W5 := ⟨_, rfl⟩
        rw [hW5] at hb5 hn5
        rw [hz4] at hn5
        have HB5 := Lib.hid (hww4.trans (hb5.mono hww4.size))
        have HN41 := Lib.hid (blk_keep9 hb5 hn4)
        have HN52 := Lib.hid hn5
        have HW4 := Lib.hid hW4
        have HW5 := Lib.hid hW5
        have HZ4 := Lib.hid hz4
        have hq := HQ.out
        rw [l1.drop_get i s1 x1 hx1, l2.drop_get i s2 x2 hx2, keysEq] at hq
        have HQ2 := Lib.hid hq
        have HSK := Lib.hid (fun c0 c1 c2 c3 c4 d0 d1 d2 d3 d4 => sameKeyC s1 s2 c0 c1 c2 c3 c4 d0 d1 d2 d3 d4 W5)
        clear hx1 hx2 hobs hobs' hg hg' ks q0 q1 q2 q3 q4 hyr kt p0 p1 p2 p3 p4 hzr e e' hb4 hn4 hW4 hz4 hww4 hb5 hn5 hW5 hq HQ
        go_upto_region 6 with fail
        rw [HW4.out]
        clear x0 x1' x2' x3 x4 x5
        go_upto_region 7 with fail
        rw [HZ4.out, HW5.out]
        clear z0 z1 z2 z3 z4 z5
        have y0 : W5.cell? ⟨wr.heap.size, 0, none⟩ = some (.string s1) := cell_of_row _ _ 0 _ _ (0, 0) HN41.out
        have y1 : W5.cell? ⟨wr.heap.size, 1, none⟩ = some (.int .i64 k9) := cell_of_row _ _ 1 _ _ (0, 0) HN41.out
        have y2 : W5.cell? ⟨wr.heap.size, 2, none⟩ = some (.int .i64 n9) := cell_of_row _ _ 2 _ _ (0, 0) HN41.out
        have y3 : W5.cell? ⟨wr.heap.size, 3, none⟩ = some (.slice A29 m29 c29) := cell_of_row _ _ 3 _ _ (0, 0) HN41.out
        have y4 : W5.cell? ⟨wr.heap.size, 4, none⟩ = some (.slice A39 m39 c39) := cell_of_row _ _ 4 _ _ (0, 0) HN41.out
        have y5 : W5.cell? ⟨wr.heap.size, 5, none⟩ = some (.slice A49 m49 c49) := cell_of_row _ _ 5 _ _ (0, 0) HN41.out
        have v0 : W5.cell? ⟨wr.heap.size + 1, 0, none⟩ = some (.string s2) := cell_of_row _ _ 0 _ _ (0, 0) HN52.out
        have v1 : W5.cell? ⟨wr.heap.size + 1, 1, none⟩ = some (.int .i64 k8) := cell_of_row _ _ 1 _ _ (0, 0) HN52.out
        have v2 : W5.cell? ⟨wr.heap.size + 1, 2, none⟩ = some (.int .i64 n8) := cell_of_row _ _ 2 _ _ (0, 0) HN52.out
        have v3 : W5.cell? ⟨wr.heap.size + 1, 3, none⟩ = some (.slice A28 m28 c28) := cell_of_row _ _ 3 _ _ (0, 0) HN52.out
        have v4 : W5.cell? ⟨wr.heap.size + 1, 4, none⟩ = some (.slice A38 m38 c38) := cell_of_row _ _ 4 _ _ (0, 0) HN52.out
        have v5 : W5.cell? ⟨wr.heap.size + 1, 5, none⟩ = some (.slice A48 m48 c48) := cell_of_row _ _ 5 _ _ (0, 0) HN52.out
        by_cases hk : s1 = s2
        · have hq := HQ2.out
          rw [if_pos hk] at hq
          have HQ3 := Lib.hid hq
          have hsk := HSK.out
          rw [decide_eq_true hk] at hsk
          have HSK2 := Lib.hid hsk
          clear hk hq HSK hsk HQ2
          go_wp2_with (first | (go_at_call 59; refine (HSK2.out _ _ _ _ _ _ _ _ _ _).mono ?_; (rintro r w6 ⟨rfl, q, os, rfl⟩); have HB6 := Lib.hid (HB5.out.trans ((Grw.below ⟨q, os, rfl⟩).mono HB5.out.size))))
          go_roundw
          case rel => exact ⟨i + 1, by omega, by go_num, HB6, HQ3⟩
          case measure => simp [intOf]; omega
        · have hq := HQ2.out
          rw [if_neg hk] at hq
          subst hq
          have hsk := HSK.out
          rw [decide_eq_false hk] at hsk
          have HSK2 := Lib.hid hsk
          clear hk HSK hsk HQ2
          go_wp2_with (first | (go_at_call 59; refine (HSK2.out _ _ _ _ _ _ _ _ _ _).mono ?_; (rintro r w6 ⟨rfl, q, os, rfl⟩); have HB6 := Lib.hid (HB5.out.trans ((Grw.below ⟨q, os, rfl⟩).mono HB5.out.size))))
          go_ret
          exact ⟨rfl, HB6.out⟩
      · obtain rfl : N = i := by omega
        have hq := HQ.out
        have ha := Ens.drop_end l1
        have hb := Ens.drop_end l2
        rw [HN.out] at ha
        rw [HM.out] at hb
        rw [ha, hb, keysEq] at hq
        subst hq
        clear ha hb
        go_wp2_with fail
        go_ret
        exact ⟨rfl, HB.out⟩
  · have hf := keysEq_len l1 l2 (by rw [hN, hM]; exact hNM)
    rw [hR] at hf
    subst hf
    have hne : ¬ (N : Int) = M := by omega
    have hne2 : ((N : Int) == M) = false := beq_eq_false_iff_ne.2 hne
    clear hR hN hM h1 h2 hS HR
    go_enter Try.func70, Try.ntmps70
    go_wp2_with fail
    go_ret
    exact ⟨rfl, Below.refl _ _⟩
end

section
open Go.RowKit Go.Sort
set_option linter.unusedVariables false
set_option maxRecDepth 100000
def outO : Ob → Ob → Bool
  | .mk k n b l d, .mk k2 n2 b2 l2 d2 => if k = k2 then (if n = n2 then (if b = b2 then (if l.len = l2.len then keysEq d d2 else false) else false) else false) else false
set_option maxHeartbeats 4000000 in
theorem outsideC (x y : Ob) (S : Nat → Prop) (w : World) (c0 c1 c2 c3 c4 e0 e1 e2 e3 e4 : Value) (hx : ObR w S x c0 c1 c2 c3 c4) (hy : ObR w S y e0 e1 e2 e3 e4) (hS : ∀ g, S g → g < w.heap.size) :
    Calls Try.prog 43 #[.agg #[c0, c1, c2, c3, c4], .agg #[e0, e1, e2, e3, e4]] w fun r w' => r = .returned (.bool (outO x y)) ∧ Below w.heap.size w w' := by
  obtain ⟨k, n, b, l, d⟩ := x
  obtain ⟨k', n', b', l', d'⟩ := y
  unfold ObR at hx hy
  obtain ⟨rfl, rfl, hk, hn, ⟨A2, m2, c2, rfl, hB⟩, ⟨A3, c3, rfl, h3, hl⟩, ⟨A4, c4, rfl, h4, hd⟩⟩ := hx
  obtain ⟨rfl, rfl, hk', hn', ⟨B2, q2, C2, rfl, hB'⟩, ⟨B3, C3, rfl, h3', hl'⟩, ⟨B4, C4, rfl, h4', hd'⟩⟩ := hy
  have hEF := fun W (hW : Below w.heap.size w W) => eqFuncC d d' S W A4 B4 c4 C4 (EnsV.keep ⟨h4, hd⟩ (fun g hg => hW.block g (hS g hg)) (fun _ h => h)) (EnsV.keep ⟨h4', hd'⟩ (fun g hg => hW.block g (hS g hg)) (fun _ h => h)) (fun g hg => Nat.lt_of_lt_of_le (hS g hg) hW.size)
  have hBE := fun W (hW : Below w.heap.size w W) => bytesEqC (hB.keep (S' := S) (fun g hg => hW.block g (hS g hg)) (fun _ h => h)) (hB'.keep (S' := S) (fun g hg => hW.block g (hS g hg)) (fun _ h => h))
  obtain ⟨LL, hLL⟩ : ∃ LL, l.len = LL := ⟨_, rfl⟩
  obtain ⟨DD, hDD⟩ : ∃ DD, d.len = DD := ⟨_, rfl⟩
  obtain ⟨LM, hLM⟩ : ∃ LM, l'.len = LM := ⟨_, rfl⟩
  obtain ⟨DM, hDM⟩ : ∃ DM, d'.len = DM := ⟨_, rfl⟩
  rw [hLL, hDD, hLM, hDM]
  simp only [hDD, hDM] at hEF
  rw [outO, hLL, hLM]
  obtain ⟨KE, hKE⟩ : ∃ KE, keysEq d d' = KE := ⟨_, rfl⟩
  rw [hKE]
  simp only [hKE] at hEF
  have HEF := Lib.hid hEF
  have hb2 := ((Below.refl w.heap.size w).alloc (Nat.le_refl _) (.cells #[.int .i64 k, .int .i64 n, .slice A2 m2 c2, .slice A3 LL c3, .slice A4 DD c4] 27)).alloc (by simp) (.cells #[.int .i64 k', .int .i64 n', .slice B2 q2 C2, .slice B3 LM C3, .slice B4 DM C4] 27)
  have hn2 := heap_alloc2_new w (.cells #[.int .i64 k, .int .i64 n, .slice A2 m2 c2, .slice A3 LL c3, .slice A4 DD c4] 27) (.cells #[.int .i64 k', .int .i64 n', .slice B2 q2 C2, .slice B3 LM C3, .slice B4 DM C4] 27)
  have hn1 : ((w.alloc (.cells #[.int .i64 k, .int .i64 n, .slice A2 m2 c2, .slice A3 LL c3, .slice A4 DD c4] 27)).alloc (.cells #[.int .i64 k', .int .i64 n', .slice B2 q2 C2, .slice B3 LM C3, .slice B4 DM C4] 27)).heap[w.heap.size]? = some (.cells #[.int .i64 k, .int .i64 n, .slice A2 m2 c2, .slice A3 LL c3, .slice A4 DD c4] 27) := by
    rw [heap_alloc_old _ _ (by simp)]; exact heap_alloc_new w _
  obtain ⟨W2, hW2⟩ : ∃ W2, (w.alloc (.cells #[.int .i64 k, .int .i64 n, .slice A2 m2 c2, .slice A3 LL c3, .slice A4 DD c4] 27)).alloc (.cells #[.int .i64 k', .int .i64 n', .slice B2 q2 C2, .slice B3 LM C3, .slice B4 DM C4] 27) = W2 := ⟨_, rfl⟩
  rw [hW2] at hb2 hn2 hn1
  obtain ⟨r0, r1, r2, r3, r4, -⟩ := row5_cells hn1
  obtain ⟨s0, s1, s2, s3, s4, -⟩ := row5_cells hn2
  have HB2 := Lib.hid hb2
  have HW2 := Lib.hid hW2
  have hbe := hBE W2 hb2
  clear hn1 hn2 hb2 hW2 hEF hBE hB hB' hl hl' hd hd' hS hLL hDD hLM hDM hKE h3 h4 h3' h4' hk hk' hn hn'
  by_cases e1 : k = k'
  · subst e1
    rw [if_pos rfl]
    by_cases e2 : n = n'
    · subst e2
      rw [if_pos rfl]
      by_cases e3 : b = b'
      · rw [if_pos e3]
        rw [decide_eq_true e3] at hbe
        have HBE := Lib.hid hbe
        clear hbe e3
        by_cases e4 : LL = LM
        · subst e4
          rw [if_pos rfl]
          go_enter Try.func43, Try.ntmps43
          go_upto_region 1 with fail
          rw [HW2.out]
          go_wp2_with (first
            | (go_at_call 69; refine HBE.out.mono ?_; (rintro r w3 ⟨rfl, rfl⟩))
            | (go_at_call 70; refine (HEF.out _ HB2.out).mono ?_; (rintro r w4 ⟨rfl, hb4⟩); have HB4 := Lib.hid (HB2.out.trans (hb4.mono HB2.out.size)); clear hb4))
          go_ret
          exact ⟨rfl, HB4.out⟩
        · rw [if_neg e4]
          have hne : ((LL : Int) == LM) = false := beq_eq_false_iff_ne.2 (by omega)
          have hne2 : (LL == LM) = false := beq_eq_false_iff_ne.2 e4
          have hne3 : ¬ (LL : Int) = LM := by omega
          go_enter Try.func43, Try.ntmps43
          go_upto_region 1 with fail
          rw [HW2.out]
          go_wp2_with (first
            | (go_at_call 69; refine HBE.out.mono ?_; (rintro r w3 ⟨rfl, rfl⟩)))
          go_ret
          exact ⟨rfl, HB2.out⟩
      · rw [if_neg e3]
        rw [decide_eq_false e3] at hbe
        have HBE := Lib.hid hbe
        clear hbe e3
        go_enter Try.func43, Try.ntmps43
        go_upto_region 1 with fail
        rw [HW2.out]
        go_wp2_with (first
          | (go_at_call 69; refine HBE.out.mono ?_; (rintro r w3 ⟨rfl, rfl⟩)))
        go_ret
        exact ⟨rfl, HB2.out⟩
    · rw [if_neg e2]
      have hne : (n == n') = false := beq_eq_false_iff_ne.2 e2
      clear hbe
      go_enter Try.func43, Try.ntmps43
      go_upto_region 1 with fail
      rw [HW2.out]
      go_wp2_with fail
      go_ret
      exact ⟨rfl, HB2.out⟩
  · rw [if_neg e1]
    have hne : (k == k') = false := beq_eq_false_iff_ne.2 e1
    clear hbe
    go_enter Try.func43, Try.ntmps43
    go_upto_region 1 with fail
    rw [HW2.out]
    go_wp2_with fail
    go_ret
    exact ⟨rfl, HB2.out⟩
end

section
open Go.RowKit Go.Sort
set_option linter.unusedVariables false
set_option maxRecDepth 100000
def pairsL : Obs → Obs → List (Ob × Ob)
  | .cons x xs, .cons y ys => (x, y) :: pairsL xs ys
  | _, _ => []
def pairsE : Ens → Ens → List (Ob × Ob)
  | .cons _ x xs, .cons _ y ys => (x, y) :: pairsE xs ys
  | _, _ => []
def allS (l : List (Ob × Ob)) : Bool := l.all fun p => sameO p.1 p.2
theorem allS_cons (x y : Ob) (l : List (Ob × Ob)) : allS ((x, y) :: l) = (sameO x y && allS l) := rfl
theorem allS_app (a b : List (Ob × Ob)) : allS (a ++ b) = (allS a && allS b) := by unfold allS; exact List.all_append
theorem sameL_pairs : ∀ (a b : Obs), sameL a b = (decide (a.len = b.len) && allS (pairsL a b))
  | .nil, .nil => rfl
  | .nil, .cons _ _ => by rw [sameL]; simp [Obs.len]
  | .cons _ _, .nil => by rw [sameL]; simp [Obs.len]
  | .cons x xs, .cons y ys => by
    rw [sameL, pairsL, allS_cons, sameL_pairs xs ys, Obs.len, Obs.len]
    by_cases h1 : sameO x y = true <;> by_cases h2 : xs.len = ys.len <;> simp [h1, h2]
theorem sameE_pairs : ∀ (a b : Ens), sameE a b = (keysEq a b && allS (pairsE a b))
  | .nil, .nil => rfl
  | .nil, .cons _ _ _ => by rw [sameE, keysEq]; rfl
  | .cons _ _ _, .nil => by rw [sameE, keysEq]; rfl
  | .cons s x xs, .cons t y ys => by
    rw [sameE, keysEq, pairsE, allS_cons, sameE_pairs xs ys]
    by_cases h0 : s = t <;> by_cases h1 : sameO x y = true <;> simp [h0, h1]
def pairsO : Ob → Ob → List (Ob × Ob)
  | .mk _ _ _ l d, .mk _ _ _ l2 d2 => pairsL l l2 ++ pairsE d d2
theorem same_out {x y : Ob} (hx : fitO x) (hy : fitO y) : sameO x y = (outO x y && allS (pairsO x y)) := by
  obtain ⟨k, n, b, l, d⟩ := x
  obtain ⟨k2, n2, b2, l2, d2⟩ := y
  unfold fitO at hx hy
  obtain ⟨⟨f1, f2, f3, f4⟩, -⟩ := hx
  obtain ⟨⟨g1, g2, g3, g4⟩, -⟩ := hy
  rw [sameO, outO, pairsO, allS_app]
  by_cases hk : k = k2
  · subst hk
    rw [if_pos rfl, if_pos rfl]
    by_cases h1 : k = 1 ∨ k = 2 ∨ k = 3 ∨ k = 9
    · obtain rfl : b = [] := f1.resolve_right (by omega)
      obtain rfl : l = .nil := f2.resolve_right (by omega)
      obtain rfl : d = .nil := f3.resolve_right (by omega)
      obtain rfl : b2 = [] := g1.resolve_right (by omega)
      obtain rfl : l2 = .nil := g2.resolve_right (by omega)
      obtain rfl : d2 = .nil := g3.resolve_right (by omega)
      rw [if_pos h1]
      by_cases hn : n = n2 <;> simp [hn, keysEq, pairsL, pairsE, allS]
    obtain rfl : n = 0 := f4.resolve_right h1
    obtain rfl : n2 = 0 := g4.resolve_right h1
    rw [if_neg h1, if_pos rfl]
    by_cases h2 : k = 4 ∨ k = 5
    · obtain rfl : l = .nil := f2.resolve_right (by omega)
      obtain rfl : d = .nil := f3.resolve_right (by omega)
      obtain rfl : l2 = .nil := g2.resolve_right (by omega)
      obtain rfl : d2 = .nil := g3.resolve_right (by omega)
      rw [if_pos h2, sameZ_eq]
      by_cases hb : b = b2 <;> simp [hb, keysEq, pairsL, pairsE, allS]
    rw [if_neg h2]
    by_cases h6 : k = 6
    · obtain rfl : b = [] := f1.resolve_right (by omega)
      obtain rfl : d = .nil := f3.resolve_right (by omega)
      obtain rfl : b2 = [] := g1.resolve_right (by omega)
      obtain rfl : d2 = .nil := g3.resolve_right (by omega)
      rw [if_pos h6, if_pos rfl, sameL_pairs]
      by_cases hl : l.len = l2.len <;> simp [hl, keysEq, pairsE, allS]
    obtain rfl : l = .nil := f2.resolve_right h6
    obtain rfl : l2 = .nil := g2.resolve_right h6
    rw [if_neg h6]
    by_cases h7 : k = 7 ∨ k = 8
    · rw [if_pos h7, sameE_pairs, sameZ_eq]
      by_cases h8 : k = 8
      · by_cases hb : b = b2 <;> simp [h8, hb, pairsL, allS]
      · obtain rfl : b = [] := f1.resolve_right (by omega)
        obtain rfl : b2 = [] := g1.resolve_right (by omega)
        simp [h8, pairsL, allS]
    · obtain rfl : b = [] := f1.resolve_right (by omega)
      obtain rfl : d = .nil := f3.resolve_right h7
      obtain rfl : b2 = [] := g1.resolve_right (by omega)
      obtain rfl : d2 = .nil := g3.resolve_right h7
      rw [if_neg h7]
      simp [keysEq, pairsL, pairsE, allS]
  · rw [if_neg hk, if_neg hk]; rfl
theorem pairsL_fit : ∀ (a b : Obs), fitL a → fitL b → ∀ p ∈ pairsL a b, fitO p.1 ∧ fitO p.2
  | .nil, b, _, _, p, hp => by cases b <;> cases hp
  | .cons _ _, .nil, _, _, p, hp => by cases hp
  | .cons x xs, .cons y ys, h1, h2, p, hp => by
    unfold fitL at h1 h2
    rw [pairsL] at hp
    rcases List.mem_cons.1 hp with rfl | hp
    · exact ⟨h1.1, h2.1⟩
    · exact pairsL_fit xs ys h1.2 h2.2 p hp
theorem pairsE_fit : ∀ (a b : Ens), fitE a → fitE b → ∀ p ∈ pairsE a b, fitO p.1 ∧ fitO p.2
  | .nil, b, _, _, p, hp => by cases b <;> cases hp
  | .cons _ _ _, .nil, _, _, p, hp => by cases hp
  | .cons s x xs, .cons t y ys, h1, h2, p, hp => by
    unfold fitE at h1 h2
    rw [pairsE] at hp
    rcases List.mem_cons.1 hp with rfl | hp
    · exact ⟨h1.1, h2.1⟩
    · exact pairsE_fit xs ys h1.2 h2.2 p hp
/-- What lies within what fits, fits. -/
theorem pairsO_fit {x y : Ob} (hx : fitO x) (hy : fitO y) : ∀ p ∈ pairsO x y, fitO p.1 ∧ fitO p.2 := by
  obtain ⟨k, n, b, l, d⟩ := x
  obtain ⟨k2, n2, b2, l2, d2⟩ := y
  unfold fitO at hx hy
  intro p hp
  rw [pairsO] at hp
  rcases List.mem_append.1 hp with hp | hp
  · exact pairsL_fit l l2 hx.2.2.2.1 hy.2.2.2.1 p hp
  · exact pairsE_fit d d2 hx.2.2.2.2 hy.2.2.2.2 p hp
end

section
open Go.RowKit Go.Sort
set_option linter.unusedVariables false
set_option maxRecDepth 100000
/-- The cells of a stack of pairs, the top one behind. -/
def PrC (w : World) (S : Nat → Prop) : List (Ob × Ob) → List Value → Prop
  | [], cs => cs = []
  | p :: ps, cs => ∃ rest c0 c1 c2 c3 c4 e0 e1 e2 e3 e4, cs = rest ++ [c0, c1, c2, c3, c4, e0, e1, e2, e3, e4] ∧ ObR w S p.1 c0 c1 c2 c3 c4 ∧ ObR w S p.2 e0 e1 e2 e3 e4 ∧ PrC w S ps rest
theorem PrC.keep {w w' : World} {S : Nat → Prop} (hb : ∀ g, S g → w'.heap[g]? = w.heap[g]?) : ∀ (st : List (Ob × Ob)) (cs : List Value), PrC w S st cs → PrC w' S st cs
  | [], cs, h => h
  | p :: ps, cs, h => by
    obtain ⟨rest, c0, c1, c2, c3, c4, e0, e1, e2, e3, e4, h1, h2, h3, h4⟩ := h
    exact ⟨rest, c0, c1, c2, c3, c4, e0, e1, e2, e3, e4, h1, ObR.keep hb (fun _ h => h) _ h2, ObR.keep hb (fun _ h => h) _ h3, PrC.keep hb ps rest h4⟩
theorem infoP : (Try.prog.info? 59).map (fun i => (i.zero, i.size, i.bytes)) = some (some (.agg #[.int .i64 0, .int .i64 0, .slice none 0 0, .slice none 0 0, .slice none 0 0, .int .i64 0, .int .i64 0, .slice none 0 0, .slice none 0 0, .slice none 0 0]), 10, 176) := by kernel_rfl
def PrS (w : World) (S : Nat → Prop) (base : Nat) (v : Value) (st : List (Ob × Ob)) : Prop := ∃ cs, w.ownsRow base 59 10 v st.length cs ∧ PrC w S st cs
section
variable {w w' : World} {S : Nat → Prop} {base : Nat} {v : Value} {st : List (Ob × Ob)}
theorem PrS.low (h : PrS w S base v st) (hb : Below w.heap.size w w') (hS : ∀ g, S g → g < base) (hbase : base ≤ w.heap.size) : PrS w' S base v st := by
  obtain ⟨cs, h1, h2⟩ := h
  exact ⟨cs, row_sameN h1 (fun b hb' => hb.block b (row_ltN h1 b hb').1), PrC.keep (fun g hg => hb.block g (Nat.lt_of_lt_of_le (hS g hg) hbase)) st cs h2⟩
/-- The top one, and the others. -/
theorem PrS.top {p : Ob × Ob} (h : PrS w S base v (p :: st)) : ∃ g c, v = .slice (some ⟨g, 0, none⟩) (st.length + 1) c ∧ base ≤ g ∧ g < w.heap.size ∧ PrS w S base (.slice (some ⟨g, 0, none⟩) st.length c) st ∧ (st.length + 1 ≤ c ∧ c ≤ 9223372036854775807) ∧
    ∃ c0 c1 c2 c3 c4 e0 e1 e2 e3 e4, ObR w S p.1 c0 c1 c2 c3 c4 ∧ ObR w S p.2 e0 e1 e2 e3 e4 ∧ w.cell? ⟨g, st.length * 10, none⟩ = some c0 ∧ w.cell? ⟨g, st.length * 10 + 1, none⟩ = some c1 ∧ w.cell? ⟨g, st.length * 10 + 2, none⟩ = some c2 ∧ w.cell? ⟨g, st.length * 10 + 3, none⟩ = some c3 ∧ w.cell? ⟨g, st.length * 10 + 4, none⟩ = some c4 ∧ w.cell? ⟨g, st.length * 10 + 5, none⟩ = some e0 ∧ w.cell? ⟨g, st.length * 10 + 6, none⟩ = some e1 ∧ w.cell? ⟨g, st.length * 10 + 7, none⟩ = some e2 ∧ w.cell? ⟨g, st.length * 10 + 8, none⟩ = some e3 ∧ w.cell? ⟨g, st.length * 10 + 9, none⟩ = some e4 := by
  obtain ⟨cs, h1, h2⟩ := h
  obtain ⟨rest, c0, c1, c2, c3, c4, e0, e1, e2, e3, e4, rfl, hx, hy, hr⟩ := h2
  rw [List.length_cons] at h1
  have hl := h1.1
  have hrl : rest.length = st.length * 10 := by simp at hl; omega
  obtain ⟨A, c, rfl, hc, hg⟩ := row_shapeN h1
  obtain ⟨g, rfl, hbg, hgw, hcell⟩ := hg (by omega)
  have at_ : ∀ j u, [c0, c1, c2, c3, c4, e0, e1, e2, e3, e4][j]? = some u → w.cell? ⟨g, st.length * 10 + j, none⟩ = some u := fun j u hj => by
    have := hcell (st.length * 10 + j) u (by rw [← hrl, List.getElem?_append_right (by omega), Nat.add_sub_cancel_left]; exact hj)
    rw [Nat.zero_add] at this; exact this
  refine ⟨g, c, rfl, hbg, hgw, ⟨rest, ⟨hrl, ?_⟩, hr⟩, hc, c0, c1, c2, c3, c4, e0, e1, e2, e3, e4, hx, hy, at_ 0 _ rfl, at_ 1 _ rfl, at_ 2 _ rfl, at_ 3 _ rfl, at_ 4 _ rfl, at_ 5 _ rfl, at_ 6 _ rfl, at_ 7 _ rfl, at_ 8 _ rfl, at_ 9 _ rfl⟩
  rcases h1.2 with ⟨h0, _⟩ | ⟨g2, cap, cur, ev, hb, hh, hcp, hm, hs, ht⟩
  · cases h0
  · injection ev with a1 a2 a3
    injection a1 with a1
    injection a1 with a1
    subst a1 a3
    refine .inr ⟨g, c, cur, rfl, hb, hh, by omega, hm, hs, ?_⟩
    have := congrArg (List.take rest.length) ht
    rw [List.take_take, List.take_left] at this
    rw [← hrl]
    rw [show min rest.length ((st.length + 1) * 10) = rest.length by omega] at this
    exact this
end
/-- How high the stack can grow: what lies beneath a pair, and its own width times its height. -/
def PosOk (K W : Nat) : List (Ob × Ob) → Prop
  | [] => True
  | p :: ps => (ps.length + W * htO p.1 ≤ K ∧ wdO W p.1) ∧ PosOk K W ps
theorem PosOk.len {K W : Nat} (hW : 1 ≤ W) : ∀ (st : List (Ob × Ob)), PosOk K W st → st.length ≤ K
  | [], _ => Nat.zero_le _
  | p :: ps, h => by
    have h1 := h.1.1
    have h2 : 1 ≤ htO p.1 := by obtain ⟨⟨k, n, b, l, d⟩, y⟩ := p; simp only [htO]; omega
    have h3 : W * 1 ≤ W * htO p.1 := Nat.mul_le_mul_left W h2
    rw [List.length_cons]; omega
/-- A pair from within, on top of fewer than W others that came from the same pair. -/
theorem PosOk.push {K W : Nat} {q p : Ob × Ob} {ps new : List (Ob × Ob)} (hq : ps.length + W * htO q.1 ≤ K) (hn : new.length < W) (hp : htO p.1 < htO q.1) (hw : wdO W p.1) (h : PosOk K W (new ++ ps)) : PosOk K W (p :: (new ++ ps)) := by
  refine ⟨⟨?_, hw⟩, h⟩
  rw [List.length_append]
  have h1 : W * htO p.1 + W ≤ W * htO q.1 := by
    have := Nat.mul_le_mul_left W (show htO p.1 + 1 ≤ htO q.1 by omega)
    rw [Nat.mul_add, Nat.mul_one] at this
    exact this
  omega
def szS : List (Ob × Ob) → Nat
  | [] => 0
  | p :: ps => p.1.sz + szS ps
theorem szS_app : ∀ (a b : List (Ob × Ob)), szS (a ++ b) = szS a + szS b
  | [], b => by simp [szS]
  | p :: ps, b => by rw [List.cons_append, szS, szS_app ps b, szS]; omega
theorem szS_L : ∀ (a b : Obs), szS (pairsL a b) ≤ a.sz
  | .nil, b => by cases b <;> simp [pairsL, szS]
  | .cons x xs, .nil => by simp [pairsL, szS]
  | .cons x xs, .cons y ys => by rw [pairsL, szS, Obs.sz]; exact Nat.add_le_add_left (szS_L xs ys) _
theorem szS_E : ∀ (a b : Ens), szS (pairsE a b) ≤ a.sz
  | .nil, b => by cases b <;> simp [pairsE, szS]
  | .cons s x xs, .nil => by simp [pairsE, szS]
  | .cons s x xs, .cons t y ys => by rw [pairsE, szS, Ens.sz]; exact Nat.add_le_add_left (szS_E xs ys) _
theorem szS_O (x y : Ob) : szS (pairsO x y) < x.sz := by
  obtain ⟨k, n, b, l, d⟩ := x
  obtain ⟨k2, n2, b2, l2, d2⟩ := y
  rw [pairsO, szS_app, Ob.sz]
  have := szS_L l l2
  have := szS_E d d2
  omega
end

section
open Go.RowKit Go.Sort
set_option linter.unusedVariables false
set_option maxRecDepth 100000
section
variable {w w' : World} {S : Nat → Prop} {base : Nat} {v : Value} {st : List (Ob × Ob)}
theorem PrS.lt (h : PrS w S base v st) (b : Nat) (hb : v.ownBlock = some b) : b < w.heap.size ∧ base ≤ b := by
  obtain ⟨cs, h1, -⟩ := h
  exact row_ltN h1 b hb
/-- One more, out of a literal; what else stays. -/
theorem PrS.pushX (h : PrS w S base v st) (p : Ob × Ob) {c0 c1 c2 c3 c4 e0 e1 e2 e3 e4 : Value} (hx : ObR w S p.1 c0 c1 c2 c3 c4) (hy : ObR w S p.2 e0 e1 e2 e3 e4) (hl : st.length ≤ 1000000000) (hbase : base ≤ w.heap.size) (hS : ∀ g, S g → g < base) :
    ∃ A c w'', (Builtin.append_ #[60, 60] 60 #[v, .slice (some ⟨w.heap.size, 0, none⟩) 1 1]).run Try.prog (w.alloc (.cells #[c0, c1, c2, c3, c4, e0, e1, e2, e3, e4] 59)) = .ok (.slice A (st.length + 1) c) w'' ∧ PrS w'' S base (.slice A (st.length + 1) c) (p :: st) ∧ KeepX v w (.slice A (st.length + 1) c) w'' := by
  have hb1 : Below w.heap.size w (w.alloc (.cells #[c0, c1, c2, c3, c4, e0, e1, e2, e3, e4] 59)) := (Below.refl _ _).alloc (Nat.le_refl _) _
  have hn := heap_alloc_new w (.cells #[c0, c1, c2, c3, c4, e0, e1, e2, e3, e4] 59)
  obtain ⟨cs, hr, hc⟩ := h.low hb1 hS hbase
  obtain ⟨i0, hi, hz0, hz1, hz2⟩ := info_parts infoP
  obtain ⟨o0, o1, o2, o3, o4⟩ := ObR.one _ hx
  obtain ⟨q0, q1, q2, q3, q4⟩ := ObR.one _ hy
  obtain ⟨W1, hW1⟩ : ∃ W1, w.alloc (.cells #[c0, c1, c2, c3, c4, e0, e1, e2, e3, e4] 59) = W1 := ⟨_, rfl⟩
  rw [hW1] at hb1 hn hr hc ⊢
  obtain ⟨v', w'', hrun, hown, hgr, _, hat⟩ := run_append_own_at (P := Try.prog) W1 base 60 60 59 i0 _ 10 176 Try.underlying60 hi hz0 hz1 hz2 rfl (by omega) v st.length cs hr ⟨w.heap.size, 0, none⟩ 1 1 [c0, c1, c2, c3, c4, e0, e1, e2, e3, e4] rfl
    (by
      intro j u hj
      have e : (⟨w.heap.size, 0, none⟩ : Addr).add j = ⟨w.heap.size, 0 + j, none⟩ := by unfold Addr.add; split <;> simp_all
      rw [Nat.zero_add] at e
      rw [e, cell_of_row _ _ j _ _ (0, 0) hn]
      simpa using hj)
    (by
      intro u hu
      simp only [List.mem_cons, List.not_mem_nil, or_false] at hu
      rcases hu with rfl | rfl | rfl | rfl | rfl | rfl | rfl | rfl | rfl | rfl <;> assumption) (by simp only [maxLen]; omega) (by omega) (Nat.le_trans hbase hb1.size)
  obtain ⟨A, c, rfl⟩ := own_slice hown
  have hbel : Below base W1 w'' := ⟨hgr.os, hgr.tape, hgr.output, hgr.size, fun k hk => hgr.block k (Nat.lt_of_lt_of_le hk (Nat.le_trans hbase hb1.size)) (fun e => by have := (row_ltN hr k e.symm).2; omega)⟩
  refine ⟨A, c, w'', hrun, ⟨cs ++ [c0, c1, c2, c3, c4, e0, e1, e2, e3, e4], hown, cs, c0, c1, c2, c3, c4, e0, e1, e2, e3, e4, rfl, ?_, ?_, ?_⟩, ?_⟩
  · exact ObR.keep (fun g hg => (hbel.block g (hS g hg)).trans (hb1.block g (Nat.lt_of_lt_of_le (hS g hg) hbase))) (fun _ h => h) _ hx
  · exact ObR.keep (fun g hg => (hbel.block g (hS g hg)).trans (hb1.block g (Nat.lt_of_lt_of_le (hS g hg) hbase))) (fun _ h => h) _ hy
  · exact PrC.keep (fun g hg => hbel.block g (hS g hg)) st cs hc
  · refine KeepX.start ⟨hgr.os, hgr.tape, hgr.output, hgr.size, fun k hk hne => hgr.block k hk (fun e => hne e.symm), fun b hb => ?_⟩ hb1
    rcases hat with h1 | h1
    · exact .inl (by rw [← h1, hb])
    · rw [hb] at h1; injection h1 with h1; exact .inr (by omega)
theorem PrS.same (h : PrS w S base v st) (hb : ∀ b, v.ownBlock = some b → w'.heap[b]? = w.heap[b]?) (hs : ∀ g, S g → w'.heap[g]? = w.heap[g]?) : PrS w' S base v st := by
  obtain ⟨cs, h1, h2⟩ := h
  exact ⟨cs, row_sameN h1 hb, PrC.keep hs st cs h2⟩
end
theorem PosOk.app {K W : Nat} {q : Ob × Ob} {ps : List (Ob × Ob)} (hq : ps.length + W * htO q.1 ≤ K) (h : PosOk K W ps) : ∀ (new : List (Ob × Ob)), new.length ≤ W → (∀ p ∈ new, htO p.1 < htO q.1 ∧ wdO W p.1) → PosOk K W (new ++ ps)
  | [], _, _ => h
  | p :: new, hl, hn => by
    have ih := PosOk.app hq h new (by rw [List.length_cons] at hl; omega) (fun p' hp' => hn p' (List.mem_cons_of_mem _ hp'))
    have h1 := hn p (List.mem_cons_self ..)
    exact PosOk.push hq (by rw [List.length_cons] at hl; omega) h1.1 h1.2 ih
theorem szS_rev : ∀ (a : List (Ob × Ob)), szS a.reverse = szS a
  | [] => rfl
  | p :: ps => by rw [List.reverse_cons, szS_app, szS_rev ps, szS, szS, szS]; omega
theorem allS_rev (a : List (Ob × Ob)) : allS a.reverse = allS a := by unfold allS; exact List.all_reverse
theorem pairsL_len : ∀ (a b : Obs), a.len = b.len → (pairsL a b).length = a.len
  | .nil, .nil, _ => rfl
  | .nil, .cons _ _, h => by simp [Obs.len] at h
  | .cons _ _, .nil, h => by simp [Obs.len] at h
  | .cons x xs, .cons y ys, h => by rw [pairsL, List.length_cons, pairsL_len xs ys (by simpa [Obs.len] using h), Obs.len]
theorem pairsE_len : ∀ (a b : Ens), a.len = b.len → (pairsE a b).length = a.len
  | .nil, .nil, _ => rfl
  | .nil, .cons _ _ _, h => by simp [Ens.len] at h
  | .cons _ _ _, .nil, h => by simp [Ens.len] at h
  | .cons s x xs, .cons t y ys, h => by rw [pairsE, List.length_cons, pairsE_len xs ys (by simpa [Ens.len] using h), Ens.len]
theorem pairsL_get : ∀ (a b : Obs) (i : Nat) (x y : Ob), a.get? i = some x → b.get? i = some y → (pairsL a b)[i]? = some (x, y)
  | .nil, b, i, x, y, h, _ => by simp [Obs.get?] at h
  | .cons _ _, .nil, i, x, y, _, h => by simp [Obs.get?] at h
  | .cons u us, .cons z zs, 0, x, y, h, k => by simp [Obs.get?] at h k; subst h; subst k; rfl
  | .cons u us, .cons z zs, i + 1, x, y, h, k => by rw [pairsL, List.getElem?_cons_succ]; exact pairsL_get us zs i x y (by simpa [Obs.get?] using h) (by simpa [Obs.get?] using k)
theorem pairsE_get : ∀ (a b : Ens) (i : Nat) (s t : ByteArray) (x y : Ob), a.get? i = some (s, x) → b.get? i = some (t, y) → (pairsE a b)[i]? = some (x, y)
  | .nil, b, i, s, t, x, y, h, _ => by simp [Ens.get?] at h
  | .cons _ _ _, .nil, i, s, t, x, y, _, h => by simp [Ens.get?] at h
  | .cons q u us, .cons r z zs, 0, s, t, x, y, h, k => by simp [Ens.get?] at h k; obtain ⟨_, rfl⟩ := h; obtain ⟨_, rfl⟩ := k; rfl
  | .cons q u us, .cons r z zs, i + 1, s, t, x, y, h, k => by rw [pairsE, List.getElem?_cons_succ]; exact pairsE_get us zs i s t x y (by simpa [Ens.get?] using h) (by simpa [Ens.get?] using k)
/-- The first i, the last of them on top; one more. -/
theorem rev_take {α : Type} {l : List α} {i : Nat} {x : α} (h : l[i]? = some x) (ps : List α) : (l.take (i + 1)).reverse ++ ps = x :: ((l.take i).reverse ++ ps) := by
  have hl : i < l.length := (List.getElem?_eq_some_iff.1 h).1
  have hx : l[i] = x := (List.getElem?_eq_some_iff.1 h).2
  rw [List.take_succ_eq_append_getElem hl, hx, List.reverse_append]
  rfl
theorem keysEq_lens {a b : Ens} (h : keysEq a b = true) : a.len = b.len := Decidable.byContradiction fun hne => by rw [keysEq_len a b hne] at h; cases h
theorem pairsL_ht (W : Nat) : ∀ (a b : Obs), wdL W a → ∀ p ∈ pairsL a b, htO p.1 ≤ htL a ∧ wdO W p.1
  | .nil, b, _, p, hp => by cases b <;> cases hp
  | .cons _ _, .nil, _, p, hp => by cases hp
  | .cons x xs, .cons y ys, hw, p, hp => by
    unfold wdL at hw
    rw [pairsL] at hp
    rw [htL]
    rcases List.mem_cons.1 hp with rfl | hp
    · exact ⟨by dsimp only; omega, hw.1⟩
    · have := pairsL_ht W xs ys hw.2 p hp
      exact ⟨by omega, this.2⟩
theorem pairsE_ht (W : Nat) : ∀ (a b : Ens), wdE W a → ∀ p ∈ pairsE a b, htO p.1 ≤ htE a ∧ wdO W p.1
  | .nil, b, _, p, hp => by cases b <;> cases hp
  | .cons _ _ _, .nil, _, p, hp => by cases hp
  | .cons s x xs, .cons t y ys, hw, p, hp => by
    unfold wdE at hw
    rw [pairsE] at hp
    rw [htE]
    rcases List.mem_cons.1 hp with rfl | hp
    · exact ⟨by dsimp only; omega, hw.1⟩
    · have := pairsE_ht W xs ys hw.2 p hp
      exact ⟨by omega, this.2⟩
/-- What is put on the stack in the place of the top pair. -/
def nextP : Ob × Ob → List (Ob × Ob) → List (Ob × Ob)
  | (.mk _ _ _ l d, .mk _ _ _ l2 d2), ps => (pairsE d d2).reverse ++ ((pairsL l l2).reverse ++ ps)
theorem nextP_eq (x y : Ob) (ps : List (Ob × Ob)) : nextP (x, y) ps = (pairsO x y).reverse ++ ps := by
  obtain ⟨k, n, b, l, d⟩ := x
  obtain ⟨k2, n2, b2, l2, d2⟩ := y
  rw [nextP, pairsO, List.reverse_append, List.append_assoc]
theorem nextP_all {x y : Ob} (hx : fitO x) (hy : fitO y) (ho : outO x y = true) (ps : List (Ob × Ob)) : allS (nextP (x, y) ps) = allS ((x, y) :: ps) := by
  rw [nextP_eq, allS_app, allS_rev, allS_cons, same_out hx hy, ho, Bool.true_and]
theorem nextP_sz (x y : Ob) (ps : List (Ob × Ob)) : szS (nextP (x, y) ps) < szS ((x, y) :: ps) := by
  rw [nextP_eq, szS_app, szS_rev, szS]
  have := szS_O x y
  exact Nat.add_lt_add_right this _
theorem outO_len {k n k2 n2 : Int} {b b2 : List Int} {l l2 : Obs} {d d2 : Ens} (h : outO (.mk k n b l d) (.mk k2 n2 b2 l2 d2) = true) : l.len = l2.len ∧ d.len = d2.len := by
  rw [outO] at h
  split at h
  · split at h
    · split at h
      · split at h
        · exact ⟨by assumption, keysEq_lens h⟩
        · cases h
      · cases h
    · cases h
  · cases h
theorem pairsL_le : ∀ (a b : Obs), (pairsL a b).length ≤ a.len
  | .nil, b => by cases b <;> simp [pairsL]
  | .cons x xs, .nil => by simp [pairsL]
  | .cons x xs, .cons y ys => by rw [pairsL, List.length_cons, Obs.len]; have := pairsL_le xs ys; omega
theorem pairsE_le : ∀ (a b : Ens), (pairsE a b).length ≤ a.len
  | .nil, b => by cases b <;> simp [pairsE]
  | .cons s x xs, .nil => by simp [pairsE]
  | .cons s x xs, .cons t y ys => by rw [pairsE, List.length_cons, Ens.len]; have := pairsE_le xs ys; omega
theorem nextP_pos {K W : Nat} {x y : Ob} {ps : List (Ob × Ob)} (h : PosOk K W ((x, y) :: ps)) : PosOk K W (nextP (x, y) ps) := by
  obtain ⟨⟨h1, h2⟩, h3⟩ := h
  rw [nextP_eq]
  obtain ⟨k, n, b, l, d⟩ := x
  obtain ⟨k2, n2, b2, l2, d2⟩ := y
  dsimp only at h1 h2
  have h2' := h2
  unfold wdO at h2'
  refine PosOk.app (q := (.mk k n b l d, .mk k2 n2 b2 l2 d2)) h1 h3 _ ?_ ?_
  · rw [List.length_reverse, pairsO, List.length_append]
    have := pairsL_le l l2
    have := pairsE_le d d2
    omega
  · intro p hp
    rw [List.mem_reverse, pairsO] at hp
    rw [htO]
    rcases List.mem_append.1 hp with hp | hp
    · have := pairsL_ht W l l2 h2'.2.2.1 p hp
      exact ⟨by omega, this.2⟩
    · have := pairsE_ht W d d2 h2'.2.2.2 p hp
      exact ⟨by omega, this.2⟩
def MayS (st : List (Ob × Ob)) : Prop := ∀ p ∈ st, fitO p.1 ∧ fitO p.2
theorem nextP_may {x y : Ob} {ps : List (Ob × Ob)} (h : MayS ((x, y) :: ps)) : MayS (nextP (x, y) ps) := by
  rw [nextP_eq]
  intro p hp
  obtain ⟨h1, h2⟩ := h _ (List.mem_cons_self ..)
  rcases List.mem_append.1 hp with hp | hp
  · exact pairsO_fit h1 h2 p (List.mem_reverse.1 hp)
  · exact h p (List.mem_cons_of_mem _ hp)
end
end Go.Proofs.Ytdkmomdioiipjaa
