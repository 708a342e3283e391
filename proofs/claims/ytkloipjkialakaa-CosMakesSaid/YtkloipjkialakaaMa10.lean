/- Chapter 10: what may be: pure; Has, In; the kinds that hold a number or nothing. -/
import Derived.Test.YtkloipjkialakaaAr10
namespace Go.Proofs.Ytkloipjkialakaa
open Go.RowKit
set_option linter.unusedVariables false
set_option maxRecDepth 100000

def badF (k : Int) (lb ll ld : Nat) : Bool := decide ((0 < ll ∧ k ≠ 6) ∨ (0 < ld ∧ k ≠ 7 ∧ k ≠ 8) ∨ (0 < lb ∧ k ≠ 4 ∧ k ≠ 5 ∧ k ≠ 8))
def inZ (n : Int) : Bool := decide (-214748364799999 ≤ n ∧ n ≤ 214748364799999)
def nameS (s : ByteArray) : Bool := nameZ (strZ s)
mutual
/-- May it be, with so many in one another? -/
def mayO : Ob → Int → Bool
  | .mk k n b l d, dp =>
    if badF k b.length l.len d.len = true then false
    else if k = 1 then decide (n = 0 ∨ n = 1)
    else if k = 2 then decide (-2147483647 ≤ n ∧ n ≤ 2147483647)
    else if k = 3 then inZ n
    else if k = 9 then decide (1 ≤ n ∧ n ≤ 8388607)
    else if n ≠ 0 then false
    else if k = 0 then true
    else if k = 4 then decide (b.length ≤ 32767)
    else if k = 5 then nameZ b
    else if k = 6 then (mayL l dp && decide (1 ≤ dp))
    else if k = 7 ∨ k = 8 then (if dp < 1 ∨ 16777216 < b.length then false else mayE d none dp)
    else false
def mayL : Obs → Int → Bool
  | .nil, _ => true
  | .cons x xs, dp => if x.kind = 8 ∨ dp < 1 then false else if mayO x (dp - 1) = true then mayL xs dp else false
def mayE : Ens → Option ByteArray → Int → Bool
  | .nil, _, _ => true
  | .cons s x xs, pv, dp => if nameS s = true ∧ (∀ p, pv = some p → leS s p = false) ∧ x.kind ≠ 8 ∧ x.kind ≠ 0 ∧ mayO x (dp - 1) = true then mayE xs (some s) dp else false
end
theorem inC (n : Int) (w : World) : Calls Try.prog 77 #[.int .i64 n] w fun r w' => r = .returned (.bool (inZ n)) ∧ w = w' := by
  by_cases h1 : -214748364799999 ≤ n
  · have e1 : inZ n = decide (n ≤ 214748364799999) := by unfold inZ; simp [h1]
    rw [e1]
    have g1 : n ≥ -214748364799999 := h1
    go_enter Try.func77, Try.ntmps77
    go_wp2_with fail
    go_ret
    exact ⟨rfl, rfl⟩
  · have e1 : inZ n = false := by unfold inZ; simp [h1]
    rw [e1]
    have g1 : ¬ n ≥ -214748364799999 := h1
    go_enter Try.func77, Try.ntmps77
    go_wp2_with fail
    go_ret
    exact ⟨rfl, rfl⟩
/-- Has. -/
theorem hasC (k : Int) (c1 c2 c3 c4 : Value) (w : World) : Calls Try.prog 60 #[.agg #[.int .i64 k, c1, c2, c3, c4]] w fun r w' => r = .returned (.bool (decide (k = 7 ∨ k = 8))) ∧ Below w.heap.size w w' := by
  have hb := (Below.refl w.heap.size w).alloc (Nat.le_refl _) (.cells #[.int .i64 k, c1, c2, c3, c4] 27)
  have hn := heap_alloc_new w (.cells #[.int .i64 k, c1, c2, c3, c4] 27)
  obtain ⟨W1, hW1⟩ : ∃ W1, w.alloc (.cells #[.int .i64 k, c1, c2, c3, c4] 27) = W1 := ⟨_, rfl⟩
  rw [hW1] at hb hn
  have m0 : W1.cell? ⟨w.heap.size, 0, none⟩ = some (.int .i64 k) := cell_of_row _ _ 0 _ _ (0, 0) hn
  have HB := Lib.hid hb
  clear hb hn
  by_cases h7 : k = 7
  · subst h7
    go_enter Try.func60, Try.ntmps60
    go_wp2_with fail
    go_ret
    exact ⟨by simp, HB.out⟩
  · have t7 : (k == 7) = false := beq_eq_false_iff_ne.2 h7
    by_cases h8 : k = 8
    · subst h8
      clear t7
      go_enter Try.func60, Try.ntmps60
      go_wp2_with fail
      go_ret
      exact ⟨by simp, HB.out⟩
    · have t8 : (k == 8) = false := beq_eq_false_iff_ne.2 h8
      have hv : decide (k = 7 ∨ k = 8) = false := by simp [h7, h8]
      rw [hv]
      go_enter Try.func60, Try.ntmps60
      go_wp2_with fail
      go_ret
      exact ⟨rfl, HB.out⟩
/-- What is asked of a contract. -/
def MayC (N : Nat) : Prop := ∀ (x : Ob), x.sz ≤ N → ∀ (S : Nat → Prop) (w : World) (c0 c1 c2 c3 c4 : Value) (dp : Int), ObR w S x c0 c1 c2 c3 c4 → (∀ g, S g → g < w.heap.size) → 0 ≤ dp ∧ dp ≤ 1000 →
    Calls Try.prog 53 #[.agg #[c0, c1, c2, c3, c4], .int .i64 dp] w fun r w' => r = .returned (.bool (mayO x dp)) ∧ Below w.heap.size w w'
set_option maxHeartbeats 4000000 in
theorem may0 (n : Int) (b : List Int) (l : Obs) (d : Ens) (k : Int) (hkk : k = 0) (N : Nat) (hN : (Ob.mk k n b l d).sz ≤ N) (S : Nat → Prop) (w : World) (c0 c1 c2 c3 c4 : Value) (dp : Int) (hx : ObR w S (.mk k n b l d) c0 c1 c2 c3 c4) (hS : ∀ g, S g → g < w.heap.size) (hdp : 0 ≤ dp ∧ dp ≤ 1000) :
    Calls Try.prog 53 #[.agg #[c0, c1, c2, c3, c4], .int .i64 dp] w fun r w' => r = .returned (.bool (mayO (.mk k n b l d) dp)) ∧ Below w.heap.size w w' := by
  unfold ObR at hx
  obtain ⟨rfl, rfl, hk, hn, ⟨AB, mb, cb, rfl, hB⟩, ⟨AL, cL, rfl, hlc, hl⟩, ⟨AD, cD, rfl, hdc, hd⟩⟩ := hx
  obtain ⟨LL, hLL⟩ : ∃ LL, l.len = LL := ⟨_, rfl⟩
  obtain ⟨DD, hDD⟩ : ∃ DD, d.len = DD := ⟨_, rfl⟩
  have hbl : b.length = mb := hB.1
  rw [mayO, hbl]
  rw [hLL] at hlc ⊢
  rw [hDD] at hdc ⊢
  have hb1 := (Below.refl w.heap.size w).alloc (Nat.le_refl _) (.cells #[.int .i64 k, .int .i64 n, .slice AB mb cb, .slice AL LL cL, .slice AD DD cD] 27)
  have hnew := heap_alloc_new w (.cells #[.int .i64 k, .int .i64 n, .slice AB mb cb, .slice AL LL cL, .slice AD DD cD] 27)
  obtain ⟨W1, hW1⟩ : ∃ W1, w.alloc (.cells #[.int .i64 k, .int .i64 n, .slice AB mb cb, .slice AL LL cL, .slice AD DD cD] 27) = W1 := ⟨_, rfl⟩
  have hs1 : W1.heap.size = w.heap.size + 1 := by rw [← hW1]; simp
  rw [hW1] at hb1 hnew
  have HBX : Hid (∀ W, Below W1.heap.size W1 W → Below w.heap.size w W ∧ W.cell? ⟨w.heap.size, 0, none⟩ = some (.int .i64 k) ∧ W.cell? ⟨w.heap.size, 1, none⟩ = some (.int .i64 n) ∧ W.cell? ⟨w.heap.size, 2, none⟩ = some (.slice AB mb cb) ∧ W.cell? ⟨w.heap.size, 3, none⟩ = some (.slice AL LL cL) ∧ W.cell? ⟨w.heap.size, 4, none⟩ = some (.slice AD DD cD)) := Lib.hid (fun W hW => by
    have h := (hW.block w.heap.size (by omega)).trans hnew
    exact ⟨hb1.trans (hW.mono (by omega)), cell_of_row _ _ 0 _ _ (0, 0) h, cell_of_row _ _ 1 _ _ (0, 0) h, cell_of_row _ _ 2 _ _ (0, 0) h, cell_of_row _ _ 3 _ _ (0, 0) h, cell_of_row _ _ 4 _ _ (0, 0) h⟩)
  have HHS := Lib.hid (fun W => hasC k (.int .i64 n) (.slice AB mb cb) (.slice AL LL cL) (.slice AD DD cD) W)
  obtain ⟨_, m0, m1, m2, m3, m4⟩ := HBX.out W1 (Below.refl _ _)
  have HL := Lib.hid hl
  have HD := Lib.hid hd
  have HB := Lib.hid hB
  have HS := Lib.hid hS
  have HLL := Lib.hid hLL
  have HDD := Lib.hid hDD
  have HN := Lib.hid hN
  have HS1 := Lib.hid hs1
  clear hl hd hB hS hLL hDD hN hs1 hb1 hnew hbl
  subst hkk
  rcases Nat.eq_zero_or_pos LL with hL0 | hL0
  · subst hL0
    rcases Nat.eq_zero_or_pos DD with hD0 | hD0
    · subst hD0
      rcases Nat.eq_zero_or_pos mb with hM0 | hM0
      · subst hM0
        rw [if_neg (by simp [badF])]
        by_cases hn0 : n = 0
        · subst hn0
          rw [show (if (0 : Int) = 1 then _ else _) = true by simp]
          go_enter Try.func53, Try.ntmps53
          go_wp2_with (go_at_call 60; refine (HHS.out _).mono ?_; (rintro r w2 ⟨rfl, hb2⟩); have HB2 := Lib.hid hb2; obtain ⟨_, p0, p1, p2, p3, p4⟩ := HBX.out w2 hb2; clear hb2)
          go_ret
          exact ⟨rfl, (HBX.out _ HB2.out).1⟩
        · have n0 : (n != 0) = true := by simp [hn0]
          have n1 : (n == 0) = false := beq_eq_false_iff_ne.2 hn0
          rw [show (if (0 : Int) = 1 then _ else _) = false by simp [hn0]]
          go_enter Try.func53, Try.ntmps53
          go_wp2_with (go_at_call 60; refine (HHS.out _).mono ?_; (rintro r w2 ⟨rfl, hb2⟩); have HB2 := Lib.hid hb2; obtain ⟨_, p0, p1, p2, p3, p4⟩ := HBX.out w2 hb2; clear hb2)
          go_ret
          exact ⟨rfl, (HBX.out _ HB2.out).1⟩
      · have i1 : (mb : Int) > 0 := by omega
        rw [if_pos (by simp [badF]; omega)]
        go_enter Try.func53, Try.ntmps53
        go_wp2_with (go_at_call 60; refine (HHS.out _).mono ?_; (rintro r w2 ⟨rfl, hb2⟩); have HB2 := Lib.hid hb2; obtain ⟨_, p0, p1, p2, p3, p4⟩ := HBX.out w2 hb2; clear hb2)
        go_ret
        exact ⟨rfl, (HBX.out _ HB2.out).1⟩
    · have i1 : (DD : Int) > 0 := by omega
      rw [if_pos (by simp [badF]; omega)]
      go_enter Try.func53, Try.ntmps53
      go_wp2_with (go_at_call 60; refine (HHS.out _).mono ?_; (rintro r w2 ⟨rfl, hb2⟩); have HB2 := Lib.hid hb2; obtain ⟨_, p0, p1, p2, p3, p4⟩ := HBX.out w2 hb2; clear hb2)
      go_ret
      exact ⟨rfl, (HBX.out _ HB2.out).1⟩
  · have i1 : (LL : Int) > 0 := by omega
    rw [if_pos (by simp [badF]; omega)]
    go_enter Try.func53, Try.ntmps53
    go_wp2_with (go_at_call 60; refine (HHS.out _).mono ?_; (rintro r w2 ⟨rfl, hb2⟩); have HB2 := Lib.hid hb2; obtain ⟨_, p0, p1, p2, p3, p4⟩ := HBX.out w2 hb2; clear hb2)
    go_ret
    exact ⟨rfl, (HBX.out _ HB2.out).1⟩
end Go.Proofs.Ytkloipjkialakaa
