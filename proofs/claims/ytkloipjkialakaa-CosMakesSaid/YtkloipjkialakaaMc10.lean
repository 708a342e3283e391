/- Chapter 10: may: no kind; text and name. -/
import Derived.Test.YtkloipjkialakaaMa10
namespace Go.Proofs.Ytkloipjkialakaa
open Go.RowKit
set_option linter.unusedVariables false
set_option maxRecDepth 100000

set_option maxHeartbeats 4000000 in
theorem mayX (n : Int) (b : List Int) (l : Obs) (d : Ens) (k : Int) (hkk : k ≠ 0 ∧ k ≠ 1 ∧ k ≠ 2 ∧ k ≠ 3 ∧ k ≠ 4 ∧ k ≠ 5 ∧ k ≠ 6 ∧ k ≠ 7 ∧ k ≠ 8 ∧ k ≠ 9) (N : Nat) (hN : (Ob.mk k n b l d).sz ≤ N) (S : Nat → Prop) (w : World) (c0 c1 c2 c3 c4 : Value) (dp : Int) (hx : ObR w S (.mk k n b l d) c0 c1 c2 c3 c4) (hS : ∀ g, S g → g < w.heap.size) (hdp : 0 ≤ dp ∧ dp ≤ 1000) :
    Calls Try.prog 53 #[.agg #[c0, c1, c2, c3, c4], .int .i64 dp] w fun r w' => r = .returned (.bool (mayO (.mk k n b l d) dp)) ∧ Below w.heap.size w w' := by
  unfold ObR at hx
  obtain ⟨rfl, rfl, hk, hn, ⟨AB, mb, cb, rfl, hB⟩, ⟨AL, cL, rfl, hlc, hl⟩, ⟨AD, cD, rfl, hdc, hd⟩⟩ := hx
  obtain ⟨LL, hLL⟩ : ∃ LL, l.len = LL := ⟨_, rfl⟩
  obtain ⟨DD, hDD⟩ : ∃ DD, d.len = DD := ⟨_, rfl⟩
  have hbl : b.length = mb := hB.1
  rw [mayO, hbl]
  rw [hLL] at hlc ⊢
  rw [hDD] at hdc ⊢
  have hb1 := (Below.refl w.heap.size w).alloc (Nat.le_refl _) (.cells #[.int .i64 k, .int .i64 n, .slice AB mb cb, .slice AL LL cL, .slice AD DD cD] 27)
  have hnew := heap_alloc_new w (.cells #[.int .i64 k, .int .i64 n, .slice AB mb cb, .slice AL LL cL, .slice AD DD cD] 27)
  obtain ⟨W1, hW1⟩ : ∃ W1, w.alloc (.cells #[.int .i64 k, .int .i64 n, .slice AB mb cb, .slice AL LL cL, .slice AD DD cD] 27) = W1 := ⟨_, rfl⟩
  have hs1 : W1.heap.size = w.heap.size + 1 := by rw [← hW1]; simp
  rw [hW1] at hb1 hnew
  have HBX : Hid (∀ W, Below W1.heap.size W1 W → Below w.heap.size w W ∧ W.cell? ⟨w.heap.size, 0, none⟩ = some (.int .i64 k) ∧ W.cell? ⟨w.heap.size, 1, none⟩ = some (.int .i64 n) ∧ W.cell? ⟨w.heap.size, 2, none⟩ = some (.slice AB mb cb) ∧ W.cell? ⟨w.heap.size, 3, none⟩ = some (.slice AL LL cL) ∧ W.cell? ⟨w.heap.size, 4, none⟩ = some (.slice AD DD cD)) := Lib.hid (fun W hW => by
    have h := (hW.block w.heap.size (by omega)).trans hnew
    exact ⟨hb1.trans (hW.mono (by omega)), cell_of_row _ _ 0 _ _ (0, 0) h, cell_of_row _ _ 1 _ _ (0, 0) h, cell_of_row _ _ 2 _ _ (0, 0) h, cell_of_row _ _ 3 _ _ (0, 0) h, cell_of_row _ _ 4 _ _ (0, 0) h⟩)
  have HHS := Lib.hid (fun W => hasC k (.int .i64 n) (.slice AB mb cb) (.slice AL LL cL) (.slice AD DD cD) W)
  obtain ⟨_, m0, m1, m2, m3, m4⟩ := HBX.out W1 (Below.refl _ _)
  have HL := Lib.hid hl
  have HD := Lib.hid hd
  have HB := Lib.hid hB
  have HS := Lib.hid hS
  have HLL := Lib.hid hLL
  have HDD := Lib.hid hDD
  have HN := Lib.hid hN
  have HS1 := Lib.hid hs1
  clear hl hd hB hS hLL hDD hN hs1 hb1 hnew hbl
  obtain ⟨u0, u1, u2, u3, u4, u5, u6, u7, u8, u9⟩ := hkk
  have v0 : (k == 0) = false := beq_eq_false_iff_ne.2 u0
  have v1 : (k == 1) = false := beq_eq_false_iff_ne.2 u1
  have v2 : (k == 2) = false := beq_eq_false_iff_ne.2 u2
  have v3 : (k == 3) = false := beq_eq_false_iff_ne.2 u3
  have v4 : (k == 4) = false := beq_eq_false_iff_ne.2 u4
  have v5 : (k == 5) = false := beq_eq_false_iff_ne.2 u5
  have v6 : (k == 6) = false := beq_eq_false_iff_ne.2 u6
  have v7 : (k == 7) = false := beq_eq_false_iff_ne.2 u7
  have v8 : (k == 8) = false := beq_eq_false_iff_ne.2 u8
  have v9 : (k == 9) = false := beq_eq_false_iff_ne.2 u9
  have x4 : (k != 4) = true := bne_iff_ne.2 u4
  have x5 : (k != 5) = true := bne_iff_ne.2 u5
  have x6 : (k != 6) = true := bne_iff_ne.2 u6
  have x8 : (k != 8) = true := bne_iff_ne.2 u8
  rw [show decide (k = 7 ∨ k = 8) = false by simp [u7, u8]] at HHS
  rcases Nat.eq_zero_or_pos LL with hL0 | hL0
  · subst hL0
    rcases Nat.eq_zero_or_pos DD with hD0 | hD0
    · subst hD0
      rcases Nat.eq_zero_or_pos mb with hM0 | hM0
      · subst hM0
        rw [if_neg (by simp [badF])]
        rw [show (if k = 1 then _ else _) = false by simp [u0, u1, u2, u3, u4, u5, u6, u7, u8, u9]]
        clear u0 u1 u2 u3 u4 u5 u6 u7 u8 u9
        by_cases hn0 : n = 0
        · subst hn0
          go_enter Try.func53, Try.ntmps53
          go_wp2_with (go_at_call 60; refine (HHS.out _).mono ?_; (rintro r w2 ⟨rfl, hb2⟩); have HB2 := Lib.hid hb2; obtain ⟨_, p0, p1, p2, p3, p4⟩ := HBX.out w2 hb2; clear hb2)
          go_ret
          exact ⟨rfl, (HBX.out _ HB2.out).1⟩
        · have n1 : (n == 0) = false := beq_eq_false_iff_ne.2 hn0
          go_enter Try.func53, Try.ntmps53
          go_wp2_with (go_at_call 60; refine (HHS.out _).mono ?_; (rintro r w2 ⟨rfl, hb2⟩); have HB2 := Lib.hid hb2; obtain ⟨_, p0, p1, p2, p3, p4⟩ := HBX.out w2 hb2; clear hb2)
          go_ret
          exact ⟨rfl, (HBX.out _ HB2.out).1⟩
      · have i1 : (mb : Int) > 0 := by omega
        rw [if_pos (by simp [badF, u4, u5, u6, u7, u8]; omega)]
        go_enter Try.func53, Try.ntmps53
        go_wp2_with (go_at_call 60; refine (HHS.out _).mono ?_; (rintro r w2 ⟨rfl, hb2⟩); have HB2 := Lib.hid hb2; obtain ⟨_, p0, p1, p2, p3, p4⟩ := HBX.out w2 hb2; clear hb2)
        go_ret
        exact ⟨rfl, (HBX.out _ HB2.out).1⟩
    · have i1 : (DD : Int) > 0 := by omega
      rw [if_pos (by simp [badF, u4, u5, u6, u7, u8]; omega)]
      go_enter Try.func53, Try.ntmps53
      go_wp2_with (go_at_call 60; refine (HHS.out _).mono ?_; (rintro r w2 ⟨rfl, hb2⟩); have HB2 := Lib.hid hb2; obtain ⟨_, p0, p1, p2, p3, p4⟩ := HBX.out w2 hb2; clear hb2)
      go_ret
      exact ⟨rfl, (HBX.out _ HB2.out).1⟩
  · have i1 : (LL : Int) > 0 := by omega
    rw [if_pos (by simp [badF, u4, u5, u6, u7, u8]; omega)]
    go_enter Try.func53, Try.ntmps53
    go_wp2_with (go_at_call 60; refine (HHS.out _).mono ?_; (rintro r w2 ⟨rfl, hb2⟩); have HB2 := Lib.hid hb2; obtain ⟨_, p0, p1, p2, p3, p4⟩ := HBX.out w2 hb2; clear hb2)
    go_ret
    exact ⟨rfl, (HBX.out _ HB2.out).1⟩
set_option maxHeartbeats 4000000 in
theorem may4 (n : Int) (b : List Int) (l : Obs) (d : Ens) (k : Int) (hkk : k = 4) (N : Nat) (hN : (Ob.mk k n b l d).sz ≤ N) (S : Nat → Prop) (w : World) (c0 c1 c2 c3 c4 : Value) (dp : Int) (hx : ObR w S (.mk k n b l d) c0 c1 c2 c3 c4) (hS : ∀ g, S g → g < w.heap.size) (hdp : 0 ≤ dp ∧ dp ≤ 1000) :
    Calls Try.prog 53 #[.agg #[c0, c1, c2, c3, c4], .int .i64 dp] w fun r w' => r = .returned (.bool (mayO (.mk k n b l d) dp)) ∧ Below w.heap.size w w' := by
  unfold ObR at hx
  obtain ⟨rfl, rfl, hk, hn, ⟨AB, mb, cb, rfl, hB⟩, ⟨AL, cL, rfl, hlc, hl⟩, ⟨AD, cD, rfl, hdc, hd⟩⟩ := hx
  obtain ⟨LL, hLL⟩ : ∃ LL, l.len = LL := ⟨_, rfl⟩
  obtain ⟨DD, hDD⟩ : ∃ DD, d.len = DD := ⟨_, rfl⟩
  have hbl : b.length = mb := hB.1
  rw [mayO, hbl]
  rw [hLL] at hlc ⊢
  rw [hDD] at hdc ⊢
  have hb1 := (Below.refl w.heap.size w).alloc (Nat.le_refl _) (.cells #[.int .i64 k, .int .i64 n, .slice AB mb cb, .slice AL LL cL, .slice AD DD cD] 27)
  have hnew := heap_alloc_new w (.cells #[.int .i64 k, .int .i64 n, .slice AB mb cb, .slice AL LL cL, .slice AD DD cD] 27)
  obtain ⟨W1, hW1⟩ : ∃ W1, w.alloc (.cells #[.int .i64 k, .int .i64 n, .slice AB mb cb, .slice AL LL cL, .slice AD DD cD] 27) = W1 := ⟨_, rfl⟩
  have hs1 : W1.heap.size = w.heap.size + 1 := by rw [← hW1]; simp
  rw [hW1] at hb1 hnew
  have HBX : Hid (∀ W, Below W1.heap.size W1 W → Below w.heap.size w W ∧ W.cell? ⟨w.heap.size, 0, none⟩ = some (.int .i64 k) ∧ W.cell? ⟨w.heap.size, 1, none⟩ = some (.int .i64 n) ∧ W.cell? ⟨w.heap.size, 2, none⟩ = some (.slice AB mb cb) ∧ W.cell? ⟨w.heap.size, 3, none⟩ = some (.slice AL LL cL) ∧ W.cell? ⟨w.heap.size, 4, none⟩ = some (.slice AD DD cD)) := Lib.hid (fun W hW => by
    have h := (hW.block w.heap.size (by omega)).trans hnew
    exact ⟨hb1.trans (hW.mono (by omega)), cell_of_row _ _ 0 _ _ (0, 0) h, cell_of_row _ _ 1 _ _ (0, 0) h, cell_of_row _ _ 2 _ _ (0, 0) h, cell_of_row _ _ 3 _ _ (0, 0) h, cell_of_row _ _ 4 _ _ (0, 0) h⟩)
  have HHS := Lib.hid (fun W => hasC k (.int .i64 n) (.slice AB mb cb) (.slice AL LL cL) (.slice AD DD cD) W)
  obtain ⟨_, m0, m1, m2, m3, m4⟩ := HBX.out W1 (Below.refl _ _)
  have HL := Lib.hid hl
  have HD := Lib.hid hd
  have HB := Lib.hid hB
  have HS := Lib.hid hS
  have HLL := Lib.hid hLL
  have HDD := Lib.hid hDD
  have HN := Lib.hid hN
  have HS1 := Lib.hid hs1
  clear hl hd hB hS hLL hDD hN hs1 hb1 hnew hbl
  subst hkk
  rcases Nat.eq_zero_or_pos LL with hL0 | hL0
  · subst hL0
    rcases Nat.eq_zero_or_pos DD with hD0 | hD0
    · subst hD0
      rw [if_neg (by simp [badF])]
      by_cases hn0 : n = 0
      · subst hn0
        rw [show (if (4 : Int) = 1 then _ else _) = decide (mb ≤ 32767) by simp]
        rcases Nat.eq_zero_or_pos mb with hM0 | hM0
        · subst hM0
          go_enter Try.func53, Try.ntmps53
          go_wp2_with (go_at_call 60; refine (HHS.out _).mono ?_; (rintro r w2 ⟨rfl, hb2⟩); have HB2 := Lib.hid hb2; obtain ⟨_, p0, p1, p2, p3, p4⟩ := HBX.out w2 hb2; clear hb2)
          go_ret
          exact ⟨by first | rfl | (simp; done) | (simp; omega), (HBX.out _ HB2.out).1⟩
        · have i1 : (mb : Int) > 0 := by omega
          go_enter Try.func53, Try.ntmps53
          go_wp2_with (go_at_call 60; refine (HHS.out _).mono ?_; (rintro r w2 ⟨rfl, hb2⟩); have HB2 := Lib.hid hb2; obtain ⟨_, p0, p1, p2, p3, p4⟩ := HBX.out w2 hb2; clear hb2)
          go_ret
          exact ⟨by first | rfl | (simp; done) | (simp; omega), (HBX.out _ HB2.out).1⟩
      · have n1 : (n == 0) = false := beq_eq_false_iff_ne.2 hn0
        rw [show (if (4 : Int) = 1 then _ else _) = false by simp [hn0]]
        rcases Nat.eq_zero_or_pos mb with hM0 | hM0
        · subst hM0
          go_enter Try.func53, Try.ntmps53
          go_wp2_with (go_at_call 60; refine (HHS.out _).mono ?_; (rintro r w2 ⟨rfl, hb2⟩); have HB2 := Lib.hid hb2; obtain ⟨_, p0, p1, p2, p3, p4⟩ := HBX.out w2 hb2; clear hb2)
          go_ret
          exact ⟨rfl, (HBX.out _ HB2.out).1⟩
        · have i1 : (mb : Int) > 0 := by omega
          go_enter Try.func53, Try.ntmps53
          go_wp2_with (go_at_call 60; refine (HHS.out _).mono ?_; (rintro r w2 ⟨rfl, hb2⟩); have HB2 := Lib.hid hb2; obtain ⟨_, p0, p1, p2, p3, p4⟩ := HBX.out w2 hb2; clear hb2)
          go_ret
          exact ⟨rfl, (HBX.out _ HB2.out).1⟩
    · have i1 : (DD : Int) > 0 := by omega
      rw [if_pos (by simp [badF]; omega)]
      go_enter Try.func53, Try.ntmps53
      go_wp2_with (go_at_call 60; refine (HHS.out _).mono ?_; (rintro r w2 ⟨rfl, hb2⟩); have HB2 := Lib.hid hb2; obtain ⟨_, p0, p1, p2, p3, p4⟩ := HBX.out w2 hb2; clear hb2)
      go_ret
      exact ⟨rfl, (HBX.out _ HB2.out).1⟩
  · have i1 : (LL : Int) > 0 := by omega
    rw [if_pos (by simp [badF]; omega)]
    go_enter Try.func53, Try.ntmps53
    go_wp2_with (go_at_call 60; refine (HHS.out _).mono ?_; (rintro r w2 ⟨rfl, hb2⟩); have HB2 := Lib.hid hb2; obtain ⟨_, p0, p1, p2, p3, p4⟩ := HBX.out w2 hb2; clear hb2)
    go_ret
    exact ⟨rfl, (HBX.out _ HB2.out).1⟩
set_option maxHeartbeats 4000000 in
theorem may5 (n : Int) (b : List Int) (l : Obs) (d : Ens) (k : Int) (hkk : k = 5) (N : Nat) (hN : (Ob.mk k n b l d).sz ≤ N) (S : Nat → Prop) (w : World) (c0 c1 c2 c3 c4 : Value) (dp : Int) (hx : ObR w S (.mk k n b l d) c0 c1 c2 c3 c4) (hS : ∀ g, S g → g < w.heap.size) (hdp : 0 ≤ dp ∧ dp ≤ 1000) :
    Calls Try.prog 53 #[.agg #[c0, c1, c2, c3, c4], .int .i64 dp] w fun r w' => r = .returned (.bool (mayO (.mk k n b l d) dp)) ∧ Below w.heap.size w w' := by
  unfold ObR at hx
  obtain ⟨rfl, rfl, hk, hn, ⟨AB, mb, cb, rfl, hB⟩, ⟨AL, cL, rfl, hlc, hl⟩, ⟨AD, cD, rfl, hdc, hd⟩⟩ := hx
  obtain ⟨LL, hLL⟩ : ∃ LL, l.len = LL := ⟨_, rfl⟩
  obtain ⟨DD, hDD⟩ : ∃ DD, d.len = DD := ⟨_, rfl⟩
  have hbl : b.length = mb := hB.1
  rw [mayO, hbl]
  rw [hLL] at hlc ⊢
  rw [hDD] at hdc ⊢
  have hb1 := (Below.refl w.heap.size w).alloc (Nat.le_refl _) (.cells #[.int .i64 k, .int .i64 n, .slice AB mb cb, .slice AL LL cL, .slice AD DD cD] 27)
  have hnew := heap_alloc_new w (.cells #[.int .i64 k, .int .i64 n, .slice AB mb cb, .slice AL LL cL, .slice AD DD cD] 27)
  obtain ⟨W1, hW1⟩ : ∃ W1, w.alloc (.cells #[.int .i64 k, .int .i64 n, .slice AB mb cb, .slice AL LL cL, .slice AD DD cD] 27) = W1 := ⟨_, rfl⟩
  have hs1 : W1.heap.size = w.heap.size + 1 := by rw [← hW1]; simp
  rw [hW1] at hb1 hnew
  have HBX : Hid (∀ W, Below W1.heap.size W1 W → Below w.heap.size w W ∧ W.cell? ⟨w.heap.size, 0, none⟩ = some (.int .i64 k) ∧ W.cell? ⟨w.heap.size, 1, none⟩ = some (.int .i64 n) ∧ W.cell? ⟨w.heap.size, 2, none⟩ = some (.slice AB mb cb) ∧ W.cell? ⟨w.heap.size, 3, none⟩ = some (.slice AL LL cL) ∧ W.cell? ⟨w.heap.size, 4, none⟩ = some (.slice AD DD cD)) := Lib.hid (fun W hW => by
    have h := (hW.block w.heap.size (by omega)).trans hnew
    exact ⟨hb1.trans (hW.mono (by omega)), cell_of_row _ _ 0 _ _ (0, 0) h, cell_of_row _ _ 1 _ _ (0, 0) h, cell_of_row _ _ 2 _ _ (0, 0) h, cell_of_row _ _ 3 _ _ (0, 0) h, cell_of_row _ _ 4 _ _ (0, 0) h⟩)
  have HHS := Lib.hid (fun W => hasC k (.int .i64 n) (.slice AB mb cb) (.slice AL LL cL) (.slice AD DD cD) W)
  obtain ⟨_, m0, m1, m2, m3, m4⟩ := HBX.out W1 (Below.refl _ _)
  have HL := Lib.hid hl
  have HD := Lib.hid hd
  have HB := Lib.hid hB
  have HS := Lib.hid hS
  have HLL := Lib.hid hLL
  have HDD := Lib.hid hDD
  have HN := Lib.hid hN
  have HS1 := Lib.hid hs1
  clear hl hd hB hS hLL hDD hN hs1 hb1 hnew hbl
  subst hkk
  rcases Nat.eq_zero_or_pos LL with hL0 | hL0
  · subst hL0
    rcases Nat.eq_zero_or_pos DD with hD0 | hD0
    · subst hD0
      rw [if_neg (by simp [badF])]
      by_cases hn0 : n = 0
      · subst hn0
        rw [show (if (5 : Int) = 1 then _ else _) = nameZ b by simp]
        rcases Nat.eq_zero_or_pos mb with hM0 | hM0
        · subst hM0
          go_enter Try.func53, Try.ntmps53
          go_wp2_with (first
            | (go_at_call 60; refine (HHS.out _).mono ?_; (rintro r w2 ⟨rfl, hb2⟩); have HB2 := Lib.hid hb2; obtain ⟨_, p0, p1, p2, p3, p4⟩ := HBX.out w2 hb2; clear hb2)
            | (go_at_call 78; refine (nameC S w2 AB _ cb b (HB.out.keep (fun g hg => (HBX.out w2 HB2.out).1.block g (HS.out g hg)) (fun _ h => h))).mono ?_; (rintro r w3 ⟨rfl, rfl⟩)))
          go_ret
          exact ⟨by first | rfl | (simp; done) | (simp; omega), (HBX.out _ HB2.out).1⟩
        · have i1 : (mb : Int) > 0 := by omega
          go_enter Try.func53, Try.ntmps53
          go_wp2_with (first
            | (go_at_call 60; refine (HHS.out _).mono ?_; (rintro r w2 ⟨rfl, hb2⟩); have HB2 := Lib.hid hb2; obtain ⟨_, p0, p1, p2, p3, p4⟩ := HBX.out w2 hb2; clear hb2)
            | (go_at_call 78; refine (nameC S w2 AB _ cb b (HB.out.keep (fun g hg => (HBX.out w2 HB2.out).1.block g (HS.out g hg)) (fun _ h => h))).mono ?_; (rintro r w3 ⟨rfl, rfl⟩)))
          go_ret
          exact ⟨by first | rfl | (simp; done) | (simp; omega), (HBX.out _ HB2.out).1⟩
      · have n1 : (n == 0) = false := beq_eq_false_iff_ne.2 hn0
        rw [show (if (5 : Int) = 1 then _ else _) = false by simp [hn0]]
        rcases Nat.eq_zero_or_pos mb with hM0 | hM0
        · subst hM0
          go_enter Try.func53, Try.ntmps53
          go_wp2_with (go_at_call 60; refine (HHS.out _).mono ?_; (rintro r w2 ⟨rfl, hb2⟩); have HB2 := Lib.hid hb2; obtain ⟨_, p0, p1, p2, p3, p4⟩ := HBX.out w2 hb2; clear hb2)
          go_ret
          exact ⟨rfl, (HBX.out _ HB2.out).1⟩
        · have i1 : (mb : Int) > 0 := by omega
          go_enter Try.func53, Try.ntmps53
          go_wp2_with (go_at_call 60; refine (HHS.out _).mono ?_; (rintro r w2 ⟨rfl, hb2⟩); have HB2 := Lib.hid hb2; obtain ⟨_, p0, p1, p2, p3, p4⟩ := HBX.out w2 hb2; clear hb2)
          go_ret
          exact ⟨rfl, (HBX.out _ HB2.out).1⟩
    · have i1 : (DD : Int) > 0 := by omega
      rw [if_pos (by simp [badF]; omega)]
      go_enter Try.func53, Try.ntmps53
      go_wp2_with (go_at_call 60; refine (HHS.out _).mono ?_; (rintro r w2 ⟨rfl, hb2⟩); have HB2 := Lib.hid hb2; obtain ⟨_, p0, p1, p2, p3, p4⟩ := HBX.out w2 hb2; clear hb2)
      go_ret
      exact ⟨rfl, (HBX.out _ HB2.out).1⟩
  · have i1 : (LL : Int) > 0 := by omega
    rw [if_pos (by simp [badF]; omega)]
    go_enter Try.func53, Try.ntmps53
    go_wp2_with (go_at_call 60; refine (HHS.out _).mono ?_; (rintro r w2 ⟨rfl, hb2⟩); have HB2 := Lib.hid hb2; obtain ⟨_, p0, p1, p2, p3, p4⟩ := HBX.out w2 hb2; clear hb2)
    go_ret
    exact ⟨rfl, (HBX.out _ HB2.out).1⟩
end Go.Proofs.Ytkloipjkialakaa
