/- Chapter 10: may: kind 8. -/
import Derived.Test.YtkloipjkialakaaMe10
namespace Go.Proofs.Ytkloipjkialakaa
open Go.RowKit
set_option linter.unusedVariables false
set_option maxRecDepth 100000

set_option maxHeartbeats 8000000 in
theorem may8 (n : Int) (b : List Int) (l : Obs) (d : Ens) (k : Int) (hkk : k = 8) (N : Nat) (hIH : MayC N) (hN : (Ob.mk k n b l d).sz ≤ N + 1) (S : Nat → Prop) (w : World) (c0 c1 c2 c3 c4 : Value) (dp : Int) (hx : ObR w S (.mk k n b l d) c0 c1 c2 c3 c4) (hS : ∀ g, S g → g < w.heap.size) (hdp : 0 ≤ dp ∧ dp ≤ 1000) :
    Calls Try.prog 53 #[.agg #[c0, c1, c2, c3, c4], .int .i64 dp] w fun r w' => r = .returned (.bool (mayO (.mk k n b l d) dp)) ∧ Below w.heap.size w w' := by
  have hE0 : ∀ (W : World), Below w.heap.size w W → Calls Try.prog 79 #[.agg #[c0, c1, c2, c3, c4], .int .i64 dp] W fun r w' => r = .returned (.bool (if dp < 1 ∨ 16777216 < b.length then false else mayE d none dp)) ∧ Below W.heap.size W w' := fun W hW => mayEC N hIH k n b l d hN S W c0 c1 c2 c3 c4 dp (ObR.keep (fun g hg => hW.block g (hS g hg)) (fun _ h => h) _ hx) (fun g hg => Nat.lt_of_lt_of_le (hS g hg) hW.size) hdp
  clear hIH
  unfold ObR at hx
  obtain ⟨rfl, rfl, hk, hn, ⟨AB, mb, cb, rfl, hB⟩, ⟨AL, cL, rfl, hlc, hl⟩, ⟨AD, cD, rfl, hdc, hd⟩⟩ := hx
  obtain ⟨LL, hLL⟩ : ∃ LL, l.len = LL := ⟨_, rfl⟩
  obtain ⟨DD, hDD⟩ : ∃ DD, d.len = DD := ⟨_, rfl⟩
  have hbl : b.length = mb := hB.1
  rw [mayO, hbl]
  rw [hLL] at hlc ⊢
  rw [hDD] at hdc ⊢
  have hb1 := (Below.refl w.heap.size w).alloc (Nat.le_refl _) (.cells #[.int .i64 k, .int .i64 n, .slice AB mb cb, .slice AL LL cL, .slice AD DD cD] 27)
  have hnew := heap_alloc_new w (.cells #[.int .i64 k, .int .i64 n, .slice AB mb cb, .slice AL LL cL, .slice AD DD cD] 27)
  obtain ⟨W1, hW1⟩ : ∃ W1, w.alloc (.cells #[.int .i64 k, .int .i64 n, .slice AB mb cb, .slice AL LL cL, .slice AD DD cD] 27) = W1 := ⟨_, rfl⟩
  have hs1 : W1.heap.size = w.heap.size + 1 := by rw [← hW1]; simp
  rw [hW1] at hb1 hnew
  have HBX : Hid (∀ W, Below W1.heap.size W1 W → Below w.heap.size w W ∧ W.cell? ⟨w.heap.size, 0, none⟩ = some (.int .i64 k) ∧ W.cell? ⟨w.heap.size, 1, none⟩ = some (.int .i64 n) ∧ W.cell? ⟨w.heap.size, 2, none⟩ = some (.slice AB mb cb) ∧ W.cell? ⟨w.heap.size, 3, none⟩ = some (.slice AL LL cL) ∧ W.cell? ⟨w.heap.size, 4, none⟩ = some (.slice AD DD cD)) := Lib.hid (fun W hW => by
    have h := (hW.block w.heap.size (by omega)).trans hnew
    exact ⟨hb1.trans (hW.mono (by omega)), cell_of_row _ _ 0 _ _ (0, 0) h, cell_of_row _ _ 1 _ _ (0, 0) h, cell_of_row _ _ 2 _ _ (0, 0) h, cell_of_row _ _ 3 _ _ (0, 0) h, cell_of_row _ _ 4 _ _ (0, 0) h⟩)
  have HHS := Lib.hid (fun W => hasC k (.int .i64 n) (.slice AB mb cb) (.slice AL LL cL) (.slice AD DD cD) W)
  obtain ⟨_, m0, m1, m2, m3, m4⟩ := HBX.out W1 (Below.refl _ _)
  have HL := Lib.hid hl
  have HD := Lib.hid hd
  have HB := Lib.hid hB
  have HS := Lib.hid hS
  have HLL := Lib.hid hLL
  have HDD := Lib.hid hDD
  have HN := Lib.hid hN
  have HS1 := Lib.hid hs1
  clear hl hd hB hS hLL hDD hN hs1 hb1 hnew hbl
  simp only [HLL.out, HDD.out, HB.out.1] at hE0
  obtain ⟨R, hR⟩ : ∃ R, (if dp < 1 ∨ 16777216 < mb then false else mayE d none dp) = R := ⟨_, rfl⟩
  simp only [hR] at hE0
  subst hkk
  have HE := Lib.hid hE0
  clear hE0
  rcases Nat.eq_zero_or_pos LL with hL0 | hL0
  · subst hL0
    rcases Nat.eq_zero_or_pos mb with hM0 | hM0
    · subst hM0
      rw [if_neg (by simp [badF])]
      by_cases hn0 : n = 0
      · subst hn0
        rw [show (if (8 : Int) = 1 then _ else _) = R by rw [← hR]; simp]
        clear hR
        rcases Nat.eq_zero_or_pos DD with hD0 | hD0
        · subst hD0
          go_enter Try.func53, Try.ntmps53
          go_wp2_with (first
            | (go_at_call 60; refine (HHS.out _).mono ?_; (rintro r w2 ⟨rfl, hb2⟩); have HB2 := Lib.hid hb2; obtain ⟨_, p0, p1, p2, p3, p4⟩ := HBX.out w2 hb2; clear hb2)
            | (go_at_call 79; refine (HE.out _ (HBX.out _ HB2.out).1).mono ?_; (rintro r w3 ⟨rfl, hb3⟩); have HB3 := Lib.hid ((HBX.out _ HB2.out).1.trans (hb3.mono (HBX.out _ HB2.out).1.size)); clear hb3))
          go_ret
          exact ⟨rfl, HB3.out⟩
        · have i2 : (DD : Int) > 0 := by omega
          go_enter Try.func53, Try.ntmps53
          go_wp2_with (first
            | (go_at_call 60; refine (HHS.out _).mono ?_; (rintro r w2 ⟨rfl, hb2⟩); have HB2 := Lib.hid hb2; obtain ⟨_, p0, p1, p2, p3, p4⟩ := HBX.out w2 hb2; clear hb2)
            | (go_at_call 79; refine (HE.out _ (HBX.out _ HB2.out).1).mono ?_; (rintro r w3 ⟨rfl, hb3⟩); have HB3 := Lib.hid ((HBX.out _ HB2.out).1.trans (hb3.mono (HBX.out _ HB2.out).1.size)); clear hb3))
          go_ret
          exact ⟨rfl, HB3.out⟩
      · have n1 : (n == 0) = false := beq_eq_false_iff_ne.2 hn0
        rw [show (if (8 : Int) = 1 then _ else _) = false by simp [hn0]]
        clear hR HE
        rcases Nat.eq_zero_or_pos DD with hD0 | hD0
        · subst hD0
          go_enter Try.func53, Try.ntmps53
          go_wp2_with (go_at_call 60; refine (HHS.out _).mono ?_; (rintro r w2 ⟨rfl, hb2⟩); have HB2 := Lib.hid hb2; obtain ⟨_, p0, p1, p2, p3, p4⟩ := HBX.out w2 hb2; clear hb2)
          go_ret
          exact ⟨rfl, (HBX.out _ HB2.out).1⟩
        · have i2 : (DD : Int) > 0 := by omega
          go_enter Try.func53, Try.ntmps53
          go_wp2_with (go_at_call 60; refine (HHS.out _).mono ?_; (rintro r w2 ⟨rfl, hb2⟩); have HB2 := Lib.hid hb2; obtain ⟨_, p0, p1, p2, p3, p4⟩ := HBX.out w2 hb2; clear hb2)
          go_ret
          exact ⟨rfl, (HBX.out _ HB2.out).1⟩
    · have i1 : (mb : Int) > 0 := by omega
      rw [if_neg (by simp [badF])]
      by_cases hn0 : n = 0
      · subst hn0
        rw [show (if (8 : Int) = 1 then _ else _) = R by rw [← hR]; simp]
        clear hR
        rcases Nat.eq_zero_or_pos DD with hD0 | hD0
        · subst hD0
          go_enter Try.func53, Try.ntmps53
          go_wp2_with (first
            | (go_at_call 60; refine (HHS.out _).mono ?_; (rintro r w2 ⟨rfl, hb2⟩); have HB2 := Lib.hid hb2; obtain ⟨_, p0, p1, p2, p3, p4⟩ := HBX.out w2 hb2; clear hb2)
            | (go_at_call 79; refine (HE.out _ (HBX.out _ HB2.out).1).mono ?_; (rintro r w3 ⟨rfl, hb3⟩); have HB3 := Lib.hid ((HBX.out _ HB2.out).1.trans (hb3.mono (HBX.out _ HB2.out).1.size)); clear hb3))
          go_ret
          exact ⟨rfl, HB3.out⟩
        · have i2 : (DD : Int) > 0 := by omega
          go_enter Try.func53, Try.ntmps53
          go_wp2_with (first
            | (go_at_call 60; refine (HHS.out _).mono ?_; (rintro r w2 ⟨rfl, hb2⟩); have HB2 := Lib.hid hb2; obtain ⟨_, p0, p1, p2, p3, p4⟩ := HBX.out w2 hb2; clear hb2)
            | (go_at_call 79; refine (HE.out _ (HBX.out _ HB2.out).1).mono ?_; (rintro r w3 ⟨rfl, hb3⟩); have HB3 := Lib.hid ((HBX.out _ HB2.out).1.trans (hb3.mono (HBX.out _ HB2.out).1.size)); clear hb3))
          go_ret
          exact ⟨rfl, HB3.out⟩
      · have n1 : (n == 0) = false := beq_eq_false_iff_ne.2 hn0
        rw [show (if (8 : Int) = 1 then _ else _) = false by simp [hn0]]
        clear hR HE
        rcases Nat.eq_zero_or_pos DD with hD0 | hD0
        · subst hD0
          go_enter Try.func53, Try.ntmps53
          go_wp2_with (go_at_call 60; refine (HHS.out _).mono ?_; (rintro r w2 ⟨rfl, hb2⟩); have HB2 := Lib.hid hb2; obtain ⟨_, p0, p1, p2, p3, p4⟩ := HBX.out w2 hb2; clear hb2)
          go_ret
          exact ⟨rfl, (HBX.out _ HB2.out).1⟩
        · have i2 : (DD : Int) > 0 := by omega
          go_enter Try.func53, Try.ntmps53
          go_wp2_with (go_at_call 60; refine (HHS.out _).mono ?_; (rintro r w2 ⟨rfl, hb2⟩); have HB2 := Lib.hid hb2; obtain ⟨_, p0, p1, p2, p3, p4⟩ := HBX.out w2 hb2; clear hb2)
          go_ret
          exact ⟨rfl, (HBX.out _ HB2.out).1⟩
  · have i1 : (LL : Int) > 0 := by omega
    rw [if_pos (by simp [badF]; omega)]
    clear hR HE
    go_enter Try.func53, Try.ntmps53
    go_wp2_with (go_at_call 60; refine (HHS.out _).mono ?_; (rintro r w2 ⟨rfl, hb2⟩); have HB2 := Lib.hid hb2; obtain ⟨_, p0, p1, p2, p3, p4⟩ := HBX.out w2 hb2; clear hb2)
    go_ret
    exact ⟨rfl, (HBX.out _ HB2.out).1⟩
end Go.Proofs.Ytkloipjkialakaa
