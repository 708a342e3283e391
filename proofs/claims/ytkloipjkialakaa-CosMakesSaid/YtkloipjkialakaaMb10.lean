/- Chapter 10: may: the kinds with a number. -/
import Derived.Test.YtkloipjkialakaaMa10
namespace Go.Proofs.Ytkloipjkialakaa
open Go.RowKit
set_option linter.unusedVariables false
set_option maxRecDepth 100000

set_option maxHeartbeats 4000000 in
theorem may1 (n : Int) (b : List Int) (l : Obs) (d : Ens) (k : Int) (hkk : k = 1) (N : Nat) (hN : (Ob.mk k n b l d).sz ≤ N) (S : Nat → Prop) (w : World) (c0 c1 c2 c3 c4 : Value) (dp : Int) (hx : ObR w S (.mk k n b l d) c0 c1 c2 c3 c4) (hS : ∀ g, S g → g < w.heap.size) (hdp : 0 ≤ dp ∧ dp ≤ 1000) :
    Calls Try.prog 53 #[.agg #[c0, c1, c2, c3, c4], .int .i64 dp] w fun r w' => r = .returned (.bool (mayO (.mk k n b l d) dp)) ∧ Below w.heap.size w w' := by
  unfold ObR at hx
  obtain ⟨rfl, rfl, hk, hn, ⟨AB, mb, cb, rfl, hB⟩, ⟨AL, cL, rfl, hlc, hl⟩, ⟨AD, cD, rfl, hdc, hd⟩⟩ := hx
  obtain ⟨LL, hLL⟩ : ∃ LL, l.len = LL := ⟨_, rfl⟩
  obtain ⟨DD, hDD⟩ : ∃ DD, d.len = DD := ⟨_, rfl⟩
  have hbl : b.length = mb := hB.1
  rw [mayO, hbl]
  rw [hLL] at hlc ⊢
  rw [hDD] at hdc ⊢
  have hb1 := (Below.refl w.heap.size w).alloc (Nat.le_refl _) (.cells #[.int .i64 k, .int .i64 n, .slice AB mb cb, .slice AL LL cL, .slice AD DD cD] 27)
  have hnew := heap_alloc_new w (.cells #[.int .i64 k, .int .i64 n, .slice AB mb cb, .slice AL LL cL, .slice AD DD cD] 27)
  obtain ⟨W1, hW1⟩ : ∃ W1, w.alloc (.cells #[.int .i64 k, .int .i64 n, .slice AB mb cb, .slice AL LL cL, .slice AD DD cD] 27) = W1 := ⟨_, rfl⟩
  have hs1 : W1.heap.size = w.heap.size + 1 := by rw [← hW1]; simp
  rw [hW1] at hb1 hnew
  have HBX : Hid (∀ W, Below W1.heap.size W1 W → Below w.heap.size w W ∧ W.cell? ⟨w.heap.size, 0, none⟩ = some (.int .i64 k) ∧ W.cell? ⟨w.heap.size, 1, none⟩ = some (.int .i64 n) ∧ W.cell? ⟨w.heap.size, 2, none⟩ = some (.slice AB mb cb) ∧ W.cell? ⟨w.heap.size, 3, none⟩ = some (.slice AL LL cL) ∧ W.cell? ⟨w.heap.size, 4, none⟩ = some (.slice AD DD cD)) := Lib.hid (fun W hW => by
    have h := (hW.block w.heap.size (by omega)).trans hnew
    exact ⟨hb1.trans (hW.mono (by omega)), cell_of_row _ _ 0 _ _ (0, 0) h, cell_of_row _ _ 1 _ _ (0, 0) h, cell_of_row _ _ 2 _ _ (0, 0) h, cell_of_row _ _ 3 _ _ (0, 0) h, cell_of_row _ _ 4 _ _ (0, 0) h⟩)
  have HHS := Lib.hid (fun W => hasC k (.int .i64 n) (.slice AB mb cb) (.slice AL LL cL) (.slice AD DD cD) W)
  obtain ⟨_, m0, m1, m2, m3, m4⟩ := HBX.out W1 (Below.refl _ _)
  have HL := Lib.hid hl
  have HD := Lib.hid hd
  have HB := Lib.hid hB
  have HS := Lib.hid hS
  have HLL := Lib.hid hLL
  have HDD := Lib.hid hDD
  have HN := Lib.hid hN
  have HS1 := Lib.hid hs1
  clear hl hd hB hS hLL hDD hN hs1 hb1 hnew hbl
  subst hkk
  rcases Nat.eq_zero_or_pos LL with hL0 | hL0
  · subst hL0
    rcases Nat.eq_zero_or_pos DD with hD0 | hD0
    · subst hD0
      rcases Nat.eq_zero_or_pos mb with hM0 | hM0
      · subst hM0
        rw [if_neg (by simp [badF])]
        rw [if_pos rfl]
        by_cases hn0 : n = 0
        · subst hn0
          rw [show decide ((0 : Int) = 0 ∨ (0 : Int) = 1) = true by decide]
          go_enter Try.func53, Try.ntmps53
          go_wp2_with (go_at_call 60; refine (HHS.out _).mono ?_; (rintro r w2 ⟨rfl, hb2⟩); have HB2 := Lib.hid hb2; obtain ⟨_, p0, p1, p2, p3, p4⟩ := HBX.out w2 hb2; clear hb2)
          go_ret
          exact ⟨rfl, (HBX.out _ HB2.out).1⟩
        · have n1 : (n == 0) = false := beq_eq_false_iff_ne.2 hn0
          rw [show decide (n = 0 ∨ n = 1) = decide (n = 1) by simp [hn0]]
          go_enter Try.func53, Try.ntmps53
          go_wp2_with (go_at_call 60; refine (HHS.out _).mono ?_; (rintro r w2 ⟨rfl, hb2⟩); have HB2 := Lib.hid hb2; obtain ⟨_, p0, p1, p2, p3, p4⟩ := HBX.out w2 hb2; clear hb2)
          go_ret
          exact ⟨by first | rfl | simp, (HBX.out _ HB2.out).1⟩
      · have i1 : (mb : Int) > 0 := by omega
        rw [if_pos (by simp [badF]; omega)]
        go_enter Try.func53, Try.ntmps53
        go_wp2_with (go_at_call 60; refine (HHS.out _).mono ?_; (rintro r w2 ⟨rfl, hb2⟩); have HB2 := Lib.hid hb2; obtain ⟨_, p0, p1, p2, p3, p4⟩ := HBX.out w2 hb2; clear hb2)
        go_ret
        exact ⟨rfl, (HBX.out _ HB2.out).1⟩
    · have i1 : (DD : Int) > 0 := by omega
      rw [if_pos (by simp [badF]; omega)]
      go_enter Try.func53, Try.ntmps53
      go_wp2_with (go_at_call 60; refine (HHS.out _).mono ?_; (rintro r w2 ⟨rfl, hb2⟩); have HB2 := Lib.hid hb2; obtain ⟨_, p0, p1, p2, p3, p4⟩ := HBX.out w2 hb2; clear hb2)
      go_ret
      exact ⟨rfl, (HBX.out _ HB2.out).1⟩
  · have i1 : (LL : Int) > 0 := by omega
    rw [if_pos (by simp [badF]; omega)]
    go_enter Try.func53, Try.ntmps53
    go_wp2_with (go_at_call 60; refine (HHS.out _).mono ?_; (rintro r w2 ⟨rfl, hb2⟩); have HB2 := Lib.hid hb2; obtain ⟨_, p0, p1, p2, p3, p4⟩ := HBX.out w2 hb2; clear hb2)
    go_ret
    exact ⟨rfl, (HBX.out _ HB2.out).1⟩
set_option maxHeartbeats 4000000 in
theorem may2 (n : Int) (b : List Int) (l : Obs) (d : Ens) (k : Int) (hkk : k = 2) (N : Nat) (hN : (Ob.mk k n b l d).sz ≤ N) (S : Nat → Prop) (w : World) (c0 c1 c2 c3 c4 : Value) (dp : Int) (hx : ObR w S (.mk k n b l d) c0 c1 c2 c3 c4) (hS : ∀ g, S g → g < w.heap.size) (hdp : 0 ≤ dp ∧ dp ≤ 1000) :
    Calls Try.prog 53 #[.agg #[c0, c1, c2, c3, c4], .int .i64 dp] w fun r w' => r = .returned (.bool (mayO (.mk k n b l d) dp)) ∧ Below w.heap.size w w' := by
  unfold ObR at hx
  obtain ⟨rfl, rfl, hk, hn, ⟨AB, mb, cb, rfl, hB⟩, ⟨AL, cL, rfl, hlc, hl⟩, ⟨AD, cD, rfl, hdc, hd⟩⟩ := hx
  obtain ⟨LL, hLL⟩ : ∃ LL, l.len = LL := ⟨_, rfl⟩
  obtain ⟨DD, hDD⟩ : ∃ DD, d.len = DD := ⟨_, rfl⟩
  have hbl : b.length = mb := hB.1
  rw [mayO, hbl]
  rw [hLL] at hlc ⊢
  rw [hDD] at hdc ⊢
  have hb1 := (Below.refl w.heap.size w).alloc (Nat.le_refl _) (.cells #[.int .i64 k, .int .i64 n, .slice AB mb cb, .slice AL LL cL, .slice AD DD cD] 27)
  have hnew := heap_alloc_new w (.cells #[.int .i64 k, .int .i64 n, .slice AB mb cb, .slice AL LL cL, .slice AD DD cD] 27)
  obtain ⟨W1, hW1⟩ : ∃ W1, w.alloc (.cells #[.int .i64 k, .int .i64 n, .slice AB mb cb, .slice AL LL cL, .slice AD DD cD] 27) = W1 := ⟨_, rfl⟩
  have hs1 : W1.heap.size = w.heap.size + 1 := by rw [← hW1]; simp
  rw [hW1] at hb1 hnew
  have HBX : Hid (∀ W, Below W1.heap.size W1 W → Below w.heap.size w W ∧ W.cell? ⟨w.heap.size, 0, none⟩ = some (.int .i64 k) ∧ W.cell? ⟨w.heap.size, 1, none⟩ = some (.int .i64 n) ∧ W.cell? ⟨w.heap.size, 2, none⟩ = some (.slice AB mb cb) ∧ W.cell? ⟨w.heap.size, 3, none⟩ = some (.slice AL LL cL) ∧ W.cell? ⟨w.heap.size, 4, none⟩ = some (.slice AD DD cD)) := Lib.hid (fun W hW => by
    have h := (hW.block w.heap.size (by omega)).trans hnew
    exact ⟨hb1.trans (hW.mono (by omega)), cell_of_row _ _ 0 _ _ (0, 0) h, cell_of_row _ _ 1 _ _ (0, 0) h, cell_of_row _ _ 2 _ _ (0, 0) h, cell_of_row _ _ 3 _ _ (0, 0) h, cell_of_row _ _ 4 _ _ (0, 0) h⟩)
  have HHS := Lib.hid (fun W => hasC k (.int .i64 n) (.slice AB mb cb) (.slice AL LL cL) (.slice AD DD cD) W)
  obtain ⟨_, m0, m1, m2, m3, m4⟩ := HBX.out W1 (Below.refl _ _)
  have HL := Lib.hid hl
  have HD := Lib.hid hd
  have HB := Lib.hid hB
  have HS := Lib.hid hS
  have HLL := Lib.hid hLL
  have HDD := Lib.hid hDD
  have HN := Lib.hid hN
  have HS1 := Lib.hid hs1
  clear hl hd hB hS hLL hDD hN hs1 hb1 hnew hbl
  subst hkk
  rcases Nat.eq_zero_or_pos LL with hL0 | hL0
  · subst hL0
    rcases Nat.eq_zero_or_pos DD with hD0 | hD0
    · subst hD0
      rcases Nat.eq_zero_or_pos mb with hM0 | hM0
      · subst hM0
        rw [if_neg (by simp [badF])]
        rw [if_neg (by decide), if_pos rfl]
        by_cases h1 : -2147483647 ≤ n
        · have g1 : n ≥ -2147483647 := h1
          rw [show decide (-2147483647 ≤ n ∧ n ≤ 2147483647) = decide (n ≤ 2147483647) by simp [h1]]
          go_enter Try.func53, Try.ntmps53
          go_wp2_with (go_at_call 60; refine (HHS.out _).mono ?_; (rintro r w2 ⟨rfl, hb2⟩); have HB2 := Lib.hid hb2; obtain ⟨_, p0, p1, p2, p3, p4⟩ := HBX.out w2 hb2; clear hb2)
          go_ret
          exact ⟨rfl, (HBX.out _ HB2.out).1⟩
        · have g1 : ¬ n ≥ -2147483647 := h1
          rw [show decide (-2147483647 ≤ n ∧ n ≤ 2147483647) = false by simp [h1]]
          go_enter Try.func53, Try.ntmps53
          go_wp2_with (go_at_call 60; refine (HHS.out _).mono ?_; (rintro r w2 ⟨rfl, hb2⟩); have HB2 := Lib.hid hb2; obtain ⟨_, p0, p1, p2, p3, p4⟩ := HBX.out w2 hb2; clear hb2)
          go_ret
          exact ⟨rfl, (HBX.out _ HB2.out).1⟩
      · have i1 : (mb : Int) > 0 := by omega
        rw [if_pos (by simp [badF]; omega)]
        go_enter Try.func53, Try.ntmps53
        go_wp2_with (go_at_call 60; refine (HHS.out _).mono ?_; (rintro r w2 ⟨rfl, hb2⟩); have HB2 := Lib.hid hb2; obtain ⟨_, p0, p1, p2, p3, p4⟩ := HBX.out w2 hb2; clear hb2)
        go_ret
        exact ⟨rfl, (HBX.out _ HB2.out).1⟩
    · have i1 : (DD : Int) > 0 := by omega
      rw [if_pos (by simp [badF]; omega)]
      go_enter Try.func53, Try.ntmps53
      go_wp2_with (go_at_call 60; refine (HHS.out _).mono ?_; (rintro r w2 ⟨rfl, hb2⟩); have HB2 := Lib.hid hb2; obtain ⟨_, p0, p1, p2, p3, p4⟩ := HBX.out w2 hb2; clear hb2)
      go_ret
      exact ⟨rfl, (HBX.out _ HB2.out).1⟩
  · have i1 : (LL : Int) > 0 := by omega
    rw [if_pos (by simp [badF]; omega)]
    go_enter Try.func53, Try.ntmps53
    go_wp2_with (go_at_call 60; refine (HHS.out _).mono ?_; (rintro r w2 ⟨rfl, hb2⟩); have HB2 := Lib.hid hb2; obtain ⟨_, p0, p1, p2, p3, p4⟩ := HBX.out w2 hb2; clear hb2)
    go_ret
    exact ⟨rfl, (HBX.out _ HB2.out).1⟩
set_option maxHeartbeats 4000000 in
theorem may3 (n : Int) (b : List Int) (l : Obs) (d : Ens) (k : Int) (hkk : k = 3) (N : Nat) (hN : (Ob.mk k n b l d).sz ≤ N) (S : Nat → Prop) (w : World) (c0 c1 c2 c3 c4 : Value) (dp : Int) (hx : ObR w S (.mk k n b l d) c0 c1 c2 c3 c4) (hS : ∀ g, S g → g < w.heap.size) (hdp : 0 ≤ dp ∧ dp ≤ 1000) :
    Calls Try.prog 53 #[.agg #[c0, c1, c2, c3, c4], .int .i64 dp] w fun r w' => r = .returned (.bool (mayO (.mk k n b l d) dp)) ∧ Below w.heap.size w w' := by
  unfold ObR at hx
  obtain ⟨rfl, rfl, hk, hn, ⟨AB, mb, cb, rfl, hB⟩, ⟨AL, cL, rfl, hlc, hl⟩, ⟨AD, cD, rfl, hdc, hd⟩⟩ := hx
  obtain ⟨LL, hLL⟩ : ∃ LL, l.len = LL := ⟨_, rfl⟩
  obtain ⟨DD, hDD⟩ : ∃ DD, d.len = DD := ⟨_, rfl⟩
  have hbl : b.length = mb := hB.1
  rw [mayO, hbl]
  rw [hLL] at hlc ⊢
  rw [hDD] at hdc ⊢
  have hb1 := (Below.refl w.heap.size w).alloc (Nat.le_refl _) (.cells #[.int .i64 k, .int .i64 n, .slice AB mb cb, .slice AL LL cL, .slice AD DD cD] 27)
  have hnew := heap_alloc_new w (.cells #[.int .i64 k, .int .i64 n, .slice AB mb cb, .slice AL LL cL, .slice AD DD cD] 27)
  obtain ⟨W1, hW1⟩ : ∃ W1, w.alloc (.cells #[.int .i64 k, .int .i64 n, .slice AB mb cb, .slice AL LL cL, .slice AD DD cD] 27) = W1 := ⟨_, rfl⟩
  have hs1 : W1.heap.size = w.heap.size + 1 := by rw [← hW1]; simp
  rw [hW1] at hb1 hnew
  have HBX : Hid (∀ W, Below W1.heap.size W1 W → Below w.heap.size w W ∧ W.cell? ⟨w.heap.size, 0, none⟩ = some (.int .i64 k) ∧ W.cell? ⟨w.heap.size, 1, none⟩ = some (.int .i64 n) ∧ W.cell? ⟨w.heap.size, 2, none⟩ = some (.slice AB mb cb) ∧ W.cell? ⟨w.heap.size, 3, none⟩ = some (.slice AL LL cL) ∧ W.cell? ⟨w.heap.size, 4, none⟩ = some (.slice AD DD cD)) := Lib.hid (fun W hW => by
    have h := (hW.block w.heap.size (by omega)).trans hnew
    exact ⟨hb1.trans (hW.mono (by omega)), cell_of_row _ _ 0 _ _ (0, 0) h, cell_of_row _ _ 1 _ _ (0, 0) h, cell_of_row _ _ 2 _ _ (0, 0) h, cell_of_row _ _ 3 _ _ (0, 0) h, cell_of_row _ _ 4 _ _ (0, 0) h⟩)
  have HHS := Lib.hid (fun W => hasC k (.int .i64 n) (.slice AB mb cb) (.slice AL LL cL) (.slice AD DD cD) W)
  obtain ⟨_, m0, m1, m2, m3, m4⟩ := HBX.out W1 (Below.refl _ _)
  have HL := Lib.hid hl
  have HD := Lib.hid hd
  have HB := Lib.hid hB
  have HS := Lib.hid hS
  have HLL := Lib.hid hLL
  have HDD := Lib.hid hDD
  have HN := Lib.hid hN
  have HS1 := Lib.hid hs1
  clear hl hd hB hS hLL hDD hN hs1 hb1 hnew hbl
  subst hkk
  rcases Nat.eq_zero_or_pos LL with hL0 | hL0
  · subst hL0
    rcases Nat.eq_zero_or_pos DD with hD0 | hD0
    · subst hD0
      rcases Nat.eq_zero_or_pos mb with hM0 | hM0
      · subst hM0
        rw [if_neg (by simp [badF])]
        rw [if_neg (by decide), if_neg (by decide), if_pos rfl]
        go_enter Try.func53, Try.ntmps53
        go_wp2_with (first
          | (go_at_call 60; refine (HHS.out _).mono ?_; (rintro r w2 ⟨rfl, hb2⟩); have HB2 := Lib.hid hb2; obtain ⟨_, p0, p1, p2, p3, p4⟩ := HBX.out w2 hb2; clear hb2)
          | (go_at_call 77; refine (inC n _).mono ?_; (rintro r w3 ⟨rfl, rfl⟩)))
        go_ret
        exact ⟨rfl, (HBX.out _ HB2.out).1⟩
      · have i1 : (mb : Int) > 0 := by omega
        rw [if_pos (by simp [badF]; omega)]
        go_enter Try.func53, Try.ntmps53
        go_wp2_with (go_at_call 60; refine (HHS.out _).mono ?_; (rintro r w2 ⟨rfl, hb2⟩); have HB2 := Lib.hid hb2; obtain ⟨_, p0, p1, p2, p3, p4⟩ := HBX.out w2 hb2; clear hb2)
        go_ret
        exact ⟨rfl, (HBX.out _ HB2.out).1⟩
    · have i1 : (DD : Int) > 0 := by omega
      rw [if_pos (by simp [badF]; omega)]
      go_enter Try.func53, Try.ntmps53
      go_wp2_with (go_at_call 60; refine (HHS.out _).mono ?_; (rintro r w2 ⟨rfl, hb2⟩); have HB2 := Lib.hid hb2; obtain ⟨_, p0, p1, p2, p3, p4⟩ := HBX.out w2 hb2; clear hb2)
      go_ret
      exact ⟨rfl, (HBX.out _ HB2.out).1⟩
  · have i1 : (LL : Int) > 0 := by omega
    rw [if_pos (by simp [badF]; omega)]
    go_enter Try.func53, Try.ntmps53
    go_wp2_with (go_at_call 60; refine (HHS.out _).mono ?_; (rintro r w2 ⟨rfl, hb2⟩); have HB2 := Lib.hid hb2; obtain ⟨_, p0, p1, p2, p3, p4⟩ := HBX.out w2 hb2; clear hb2)
    go_ret
    exact ⟨rfl, (HBX.out _ HB2.out).1⟩
set_option maxHeartbeats 4000000 in
theorem may9 (n : Int) (b : List Int) (l : Obs) (d : Ens) (k : Int) (hkk : k = 9) (N : Nat) (hN : (Ob.mk k n b l d).sz ≤ N) (S : Nat → Prop) (w : World) (c0 c1 c2 c3 c4 : Value) (dp : Int) (hx : ObR w S (.mk k n b l d) c0 c1 c2 c3 c4) (hS : ∀ g, S g → g < w.heap.size) (hdp : 0 ≤ dp ∧ dp ≤ 1000) :
    Calls Try.prog 53 #[.agg #[c0, c1, c2, c3, c4], .int .i64 dp] w fun r w' => r = .returned (.bool (mayO (.mk k n b l d) dp)) ∧ Below w.heap.size w w' := by
  unfold ObR at hx
  obtain ⟨rfl, rfl, hk, hn, ⟨AB, mb, cb, rfl, hB⟩, ⟨AL, cL, rfl, hlc, hl⟩, ⟨AD, cD, rfl, hdc, hd⟩⟩ := hx
  obtain ⟨LL, hLL⟩ : ∃ LL, l.len = LL := ⟨_, rfl⟩
  obtain ⟨DD, hDD⟩ : ∃ DD, d.len = DD := ⟨_, rfl⟩
  have hbl : b.length = mb := hB.1
  rw [mayO, hbl]
  rw [hLL] at hlc ⊢
  rw [hDD] at hdc ⊢
  have hb1 := (Below.refl w.heap.size w).alloc (Nat.le_refl _) (.cells #[.int .i64 k, .int .i64 n, .slice AB mb cb, .slice AL LL cL, .slice AD DD cD] 27)
  have hnew := heap_alloc_new w (.cells #[.int .i64 k, .int .i64 n, .slice AB mb cb, .slice AL LL cL, .slice AD DD cD] 27)
  obtain ⟨W1, hW1⟩ : ∃ W1, w.alloc (.cells #[.int .i64 k, .int .i64 n, .slice AB mb cb, .slice AL LL cL, .slice AD DD cD] 27) = W1 := ⟨_, rfl⟩
  have hs1 : W1.heap.size = w.heap.size + 1 := by rw [← hW1]; simp
  rw [hW1] at hb1 hnew
  have HBX : Hid (∀ W, Below W1.heap.size W1 W → Below w.heap.size w W ∧ W.cell? ⟨w.heap.size, 0, none⟩ = some (.int .i64 k) ∧ W.cell? ⟨w.heap.size, 1, none⟩ = some (.int .i64 n) ∧ W.cell? ⟨w.heap.size, 2, none⟩ = some (.slice AB mb cb) ∧ W.cell? ⟨w.heap.size, 3, none⟩ = some (.slice AL LL cL) ∧ W.cell? ⟨w.heap.size, 4, none⟩ = some (.slice AD DD cD)) := Lib.hid (fun W hW => by
    have h := (hW.block w.heap.size (by omega)).trans hnew
    exact ⟨hb1.trans (hW.mono (by omega)), cell_of_row _ _ 0 _ _ (0, 0) h, cell_of_row _ _ 1 _ _ (0, 0) h, cell_of_row _ _ 2 _ _ (0, 0) h, cell_of_row _ _ 3 _ _ (0, 0) h, cell_of_row _ _ 4 _ _ (0, 0) h⟩)
  have HHS := Lib.hid (fun W => hasC k (.int .i64 n) (.slice AB mb cb) (.slice AL LL cL) (.slice AD DD cD) W)
  obtain ⟨_, m0, m1, m2, m3, m4⟩ := HBX.out W1 (Below.refl _ _)
  have HL := Lib.hid hl
  have HD := Lib.hid hd
  have HB := Lib.hid hB
  have HS := Lib.hid hS
  have HLL := Lib.hid hLL
  have HDD := Lib.hid hDD
  have HN := Lib.hid hN
  have HS1 := Lib.hid hs1
  clear hl hd hB hS hLL hDD hN hs1 hb1 hnew hbl
  subst hkk
  rcases Nat.eq_zero_or_pos LL with hL0 | hL0
  · subst hL0
    rcases Nat.eq_zero_or_pos DD with hD0 | hD0
    · subst hD0
      rcases Nat.eq_zero_or_pos mb with hM0 | hM0
      · subst hM0
        rw [if_neg (by simp [badF])]
        rw [if_neg (by decide), if_neg (by decide), if_neg (by decide), if_pos rfl]
        by_cases h1 : 1 ≤ n
        · have g1 : n ≥ 1 := h1
          rw [show decide (1 ≤ n ∧ n ≤ 8388607) = decide (n ≤ 8388607) by simp [h1]]
          go_enter Try.func53, Try.ntmps53
          go_wp2_with (go_at_call 60; refine (HHS.out _).mono ?_; (rintro r w2 ⟨rfl, hb2⟩); have HB2 := Lib.hid hb2; obtain ⟨_, p0, p1, p2, p3, p4⟩ := HBX.out w2 hb2; clear hb2)
          go_ret
          exact ⟨rfl, (HBX.out _ HB2.out).1⟩
        · have g1 : ¬ n ≥ 1 := h1
          rw [show decide (1 ≤ n ∧ n ≤ 8388607) = false by simp [h1]]
          go_enter Try.func53, Try.ntmps53
          go_wp2_with (go_at_call 60; refine (HHS.out _).mono ?_; (rintro r w2 ⟨rfl, hb2⟩); have HB2 := Lib.hid hb2; obtain ⟨_, p0, p1, p2, p3, p4⟩ := HBX.out w2 hb2; clear hb2)
          go_ret
          exact ⟨rfl, (HBX.out _ HB2.out).1⟩
      · have i1 : (mb : Int) > 0 := by omega
        rw [if_pos (by simp [badF]; omega)]
        go_enter Try.func53, Try.ntmps53
        go_wp2_with (go_at_call 60; refine (HHS.out _).mono ?_; (rintro r w2 ⟨rfl, hb2⟩); have HB2 := Lib.hid hb2; obtain ⟨_, p0, p1, p2, p3, p4⟩ := HBX.out w2 hb2; clear hb2)
        go_ret
        exact ⟨rfl, (HBX.out _ HB2.out).1⟩
    · have i1 : (DD : Int) > 0 := by omega
      rw [if_pos (by simp [badF]; omega)]
      go_enter Try.func53, Try.ntmps53
      go_wp2_with (go_at_call 60; refine (HHS.out _).mono ?_; (rintro r w2 ⟨rfl, hb2⟩); have HB2 := Lib.hid hb2; obtain ⟨_, p0, p1, p2, p3, p4⟩ := HBX.out w2 hb2; clear hb2)
      go_ret
      exact ⟨rfl, (HBX.out _ HB2.out).1⟩
  · have i1 : (LL : Int) > 0 := by omega
    rw [if_pos (by simp [badF]; omega)]
    go_enter Try.func53, Try.ntmps53
    go_wp2_with (go_at_call 60; refine (HHS.out _).mono ?_; (rintro r w2 ⟨rfl, hb2⟩); have HB2 := Lib.hid hb2; obtain ⟨_, p0, p1, p2, p3, p4⟩ := HBX.out w2 hb2; clear hb2)
    go_ret
    exact ⟨rfl, (HBX.out _ HB2.out).1⟩
end Go.Proofs.Ytkloipjkialakaa
