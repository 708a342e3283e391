/- Chapter 10: may: an array. -/
import Derived.Test.YtkloipjkialakaaMa10
namespace Go.Proofs.Ytkloipjkialakaa
open Go.RowKit
set_option linter.unusedVariables false
set_option maxRecDepth 100000

set_option maxHeartbeats 8000000 in
theorem may6 (n : Int) (b : List Int) (l : Obs) (d : Ens) (k : Int) (hkk : k = 6) (N : Nat) (hIH : MayC N) (hN : (Ob.mk k n b l d).sz ≤ N + 1) (S : Nat → Prop) (w : World) (c0 c1 c2 c3 c4 : Value) (dp : Int) (hx : ObR w S (.mk k n b l d) c0 c1 c2 c3 c4) (hS : ∀ g, S g → g < w.heap.size) (hdp : 0 ≤ dp ∧ dp ≤ 1000) :
    Calls Try.prog 53 #[.agg #[c0, c1, c2, c3, c4], .int .i64 dp] w fun r w' => r = .returned (.bool (mayO (.mk k n b l d) dp)) ∧ Below w.heap.size w w' := by
  have IH := Lib.hid hIH
  clear hIH
  unfold ObR at hx
  obtain ⟨rfl, rfl, hk, hn, ⟨AB, mb, cb, rfl, hB⟩, ⟨AL, cL, rfl, hlc, hl⟩, ⟨AD, cD, rfl, hdc, hd⟩⟩ := hx
  obtain ⟨LL, hLL⟩ : ∃ LL, l.len = LL := ⟨_, rfl⟩
  obtain ⟨DD, hDD⟩ : ∃ DD, d.len = DD := ⟨_, rfl⟩
  have hbl : b.length = mb := hB.1
  rw [mayO, hbl]
  rw [hLL] at hlc ⊢
  rw [hDD] at hdc ⊢
  have hb1 := (Below.refl w.heap.size w).alloc (Nat.le_refl _) (.cells #[.int .i64 k, .int .i64 n, .slice AB mb cb, .slice AL LL cL, .slice AD DD cD] 27)
  have hnew := heap_alloc_new w (.cells #[.int .i64 k, .int .i64 n, .slice AB mb cb, .slice AL LL cL, .slice AD DD cD] 27)
  obtain ⟨W1, hW1⟩ : ∃ W1, w.alloc (.cells #[.int .i64 k, .int .i64 n, .slice AB mb cb, .slice AL LL cL, .slice AD DD cD] 27) = W1 := ⟨_, rfl⟩
  have hs1 : W1.heap.size = w.heap.size + 1 := by rw [← hW1]; simp
  rw [hW1] at hb1 hnew
  have HBX : Hid (∀ W, Below W1.heap.size W1 W → Below w.heap.size w W ∧ W.cell? ⟨w.heap.size, 0, none⟩ = some (.int .i64 k) ∧ W.cell? ⟨w.heap.size, 1, none⟩ = some (.int .i64 n) ∧ W.cell? ⟨w.heap.size, 2, none⟩ = some (.slice AB mb cb) ∧ W.cell? ⟨w.heap.size, 3, none⟩ = some (.slice AL LL cL) ∧ W.cell? ⟨w.heap.size, 4, none⟩ = some (.slice AD DD cD)) := Lib.hid (fun W hW => by
    have h := (hW.block w.heap.size (by omega)).trans hnew
    exact ⟨hb1.trans (hW.mono (by omega)), cell_of_row _ _ 0 _ _ (0, 0) h, cell_of_row _ _ 1 _ _ (0, 0) h, cell_of_row _ _ 2 _ _ (0, 0) h, cell_of_row _ _ 3 _ _ (0, 0) h, cell_of_row _ _ 4 _ _ (0, 0) h⟩)
  have HHS := Lib.hid (fun W => hasC k (.int .i64 n) (.slice AB mb cb) (.slice AL LL cL) (.slice AD DD cD) W)
  obtain ⟨_, m0, m1, m2, m3, m4⟩ := HBX.out W1 (Below.refl _ _)
  have HL := Lib.hid hl
  have HD := Lib.hid hd
  have HB := Lib.hid hB
  have HS := Lib.hid hS
  have HLL := Lib.hid hLL
  have HDD := Lib.hid hDD
  have HN := Lib.hid hN
  have HS1 := Lib.hid hs1
  clear hl hd hB hS hLL hDD hN hs1 hb1 hnew hbl
  subst hkk
  rcases Nat.eq_zero_or_pos DD with hD0 | hD0
  · subst hD0
    rcases Nat.eq_zero_or_pos mb with hM0 | hM0
    · subst hM0
      rw [if_neg (by simp [badF])]
      by_cases hn0 : n = 0
      · subst hn0
        rw [show (if (6 : Int) = 1 then _ else _) = (mayL l dp && decide (1 ≤ dp)) by simp]
        obtain ⟨R, hR⟩ : ∃ R, mayL l dp = R := ⟨_, rfl⟩
        rw [hR]
        have HR := Lib.hid hR
        clear hR
        rcases Nat.eq_zero_or_pos LL with hL0 | hL0
        · have i2 : ¬ (LL : Int) > 0 := by omega
          have i3 : decide (0 < LL) = false := decide_eq_false (by omega)
          clear hL0
          go_enter Try.func53, Try.ntmps53
          go_wp2_with (go_at_call 60; refine (HHS.out _).mono ?_; (rintro r w2 ⟨rfl, hb2⟩); have HB2 := Lib.hid hb2; obtain ⟨_, p0, p1, p2, p3, p4⟩ := HBX.out w2 hb2; clear hb2)
          clear m0 m1 m2 m3 m4 p0 p1 p2 p3 p4 i2 i3
          go_loopw [6] (fun iv wr => ∃ i : Nat, i ≤ LL ∧ iv = .int .i64 i ∧ Hid (mayL (l.dropN i) dp = R) ∧ Hid (Below W1.heap.size W1 wr)) (fun iv _ => LL - (intOf iv).toNat)
          case atStart => exact ⟨0, Nat.zero_le _, rfl, Lib.hid (by rw [← HR.out]; cases l <;> rfl), HB2⟩
          case round =>
            obtain ⟨i, hi, rfl, HM, HBE⟩ := hrel
            obtain ⟨hww, b0, b1, b2, b3, b4⟩ := HBX.out wr HBE.out
            by_cases hlt : i < LL
            · have hgt := l.get_some i (by rw [HLL.out]; exact hlt)
              obtain ⟨y, hy⟩ := hgt
              obtain ⟨g, o, rfl, hg, hobs⟩ := HL.out (by rw [HLL.out]; omega)
              have hobs2 := ObsR.keep (S' := S) (fun b hb => hww.block b (HS.out b hb)) (fun b hb => hb) l g o hg hg hobs
              obtain ⟨d0, d1, d2, d3, d4, k0, k1, k2, k3, k4, hyr⟩ := hobs2.get l g o i y hy
              have hysz := l.get_sz i y hy
              have hm := HM.out
              rw [l.drop_get i y hy, mayL] at hm
              have hdk := kind_c0 hyr
              have hli : (i : Int) < LL := by omega
              by_cases h8 : y.kind = 8
              · rw [if_pos (.inl h8)] at hm
                subst hm
                rw [h8] at hdk
                subst hdk
                clear hobs hobs2 hyr hysz hg hww hy
                go_wp2_with fail
                go_ret
                exact ⟨rfl, (HBX.out _ HBE.out).1⟩
              · obtain ⟨kk, hkk⟩ : ∃ kk, y.kind = kk := ⟨_, rfl⟩
                rw [hkk] at hdk h8 hm
                subst hdk
                have n8 : (kk == 8) = false := beq_eq_false_iff_ne.2 h8
                by_cases hd1 : dp < 1
                · rw [if_pos (.inr hd1)] at hm
                  subst hm
                  clear hobs hobs2 hyr hysz hg hww hy h8
                  go_wp2_with fail
                  go_ret
                  exact ⟨rfl, (HBX.out _ HBE.out).1⟩
                · rw [if_neg (fun h => h.elim h8 hd1)] at hm
                  have w1 : IntKind.i64.wrap (dp - 1) = dp - 1 := IntWalk.i64_in _ (by omega)
                  have HI := Lib.hid (IH.out y (by have := HN.out; rw [Ob.sz] at this; omega) S wr _ d1 d2 d3 d4 (dp - 1) hyr (fun b hb => Nat.lt_of_lt_of_le (HS.out b hb) hww.size) (by omega))
                  obtain ⟨V, hV⟩ : ∃ V, mayO y (dp - 1) = V := ⟨_, rfl⟩
                  rw [hV] at HI hm
                  clear hobs hobs2 hyr hysz hg hww hy h8 hV hkk
                  cases V
                  · rw [if_neg (by decide)] at hm
                    subst hm
                    go_wp2_with (go_at_call 53; refine HI.out.mono ?_; (rintro r w3 ⟨rfl, hb3⟩); have HB3 := Lib.hid (HBE.out.trans (hb3.mono HBE.out.size)); clear hb3)
                    go_ret
                    exact ⟨rfl, (HBX.out _ HB3.out).1⟩
                  · rw [if_pos rfl] at hm
                    have hM2 := Lib.hid hm
                    clear hm
                    go_wp2_with (go_at_call 53; refine HI.out.mono ?_; (rintro r w3 ⟨rfl, hb3⟩); have HB3 := Lib.hid (HBE.out.trans (hb3.mono HBE.out.size)); clear hb3)
                    go_roundw
                    case rel => exact ⟨i + 1, by omega, by go_num, hM2, HB3⟩
                    case measure => simp [intOf]; omega
            · obtain rfl : LL = i := by omega
              have hm := HM.out
              have he := Obs.drop_end l
              rw [HLL.out] at he
              rw [he, mayL] at hm
              subst hm
              clear he
              go_wp2_with fail
              go_ret
              exact ⟨by first | rfl | (simp; done) | (simp; omega), (HBX.out _ HBE.out).1⟩
        · have i2 : (LL : Int) > 0 := by omega
          have i3 : decide (0 < LL) = true := decide_eq_true (by omega)
          clear hL0
          go_enter Try.func53, Try.ntmps53
          go_wp2_with (go_at_call 60; refine (HHS.out _).mono ?_; (rintro r w2 ⟨rfl, hb2⟩); have HB2 := Lib.hid hb2; obtain ⟨_, p0, p1, p2, p3, p4⟩ := HBX.out w2 hb2; clear hb2)
          clear m0 m1 m2 m3 m4 p0 p1 p2 p3 p4 i2 i3
          go_loopw [6] (fun iv wr => ∃ i : Nat, i ≤ LL ∧ iv = .int .i64 i ∧ Hid (mayL (l.dropN i) dp = R) ∧ Hid (Below W1.heap.size W1 wr)) (fun iv _ => LL - (intOf iv).toNat)
          case atStart => exact ⟨0, Nat.zero_le _, rfl, Lib.hid (by rw [← HR.out]; cases l <;> rfl), HB2⟩
          case round =>
            obtain ⟨i, hi, rfl, HM, HBE⟩ := hrel
            obtain ⟨hww, b0, b1, b2, b3, b4⟩ := HBX.out wr HBE.out
            by_cases hlt : i < LL
            · have hgt := l.get_some i (by rw [HLL.out]; exact hlt)
              obtain ⟨y, hy⟩ := hgt
              obtain ⟨g, o, rfl, hg, hobs⟩ := HL.out (by rw [HLL.out]; omega)
              have hobs2 := ObsR.keep (S' := S) (fun b hb => hww.block b (HS.out b hb)) (fun b hb => hb) l g o hg hg hobs
              obtain ⟨d0, d1, d2, d3, d4, k0, k1, k2, k3, k4, hyr⟩ := hobs2.get l g o i y hy
              have hysz := l.get_sz i y hy
              have hm := HM.out
              rw [l.drop_get i y hy, mayL] at hm
              have hdk := kind_c0 hyr
              have hli : (i : Int) < LL := by omega
              by_cases h8 : y.kind = 8
              · rw [if_pos (.inl h8)] at hm
                subst hm
                rw [h8] at hdk
                subst hdk
                clear hobs hobs2 hyr hysz hg hww hy
                go_wp2_with fail
                go_ret
                exact ⟨rfl, (HBX.out _ HBE.out).1⟩
              · obtain ⟨kk, hkk⟩ : ∃ kk, y.kind = kk := ⟨_, rfl⟩
                rw [hkk] at hdk h8 hm
                subst hdk
                have n8 : (kk == 8) = false := beq_eq_false_iff_ne.2 h8
                by_cases hd1 : dp < 1
                · rw [if_pos (.inr hd1)] at hm
                  subst hm
                  clear hobs hobs2 hyr hysz hg hww hy h8
                  go_wp2_with fail
                  go_ret
                  exact ⟨rfl, (HBX.out _ HBE.out).1⟩
                · rw [if_neg (fun h => h.elim h8 hd1)] at hm
                  have w1 : IntKind.i64.wrap (dp - 1) = dp - 1 := IntWalk.i64_in _ (by omega)
                  have HI := Lib.hid (IH.out y (by have := HN.out; rw [Ob.sz] at this; omega) S wr _ d1 d2 d3 d4 (dp - 1) hyr (fun b hb => Nat.lt_of_lt_of_le (HS.out b hb) hww.size) (by omega))
                  obtain ⟨V, hV⟩ : ∃ V, mayO y (dp - 1) = V := ⟨_, rfl⟩
                  rw [hV] at HI hm
                  clear hobs hobs2 hyr hysz hg hww hy h8 hV hkk
                  cases V
                  · rw [if_neg (by decide)] at hm
                    subst hm
                    go_wp2_with (go_at_call 53; refine HI.out.mono ?_; (rintro r w3 ⟨rfl, hb3⟩); have HB3 := Lib.hid (HBE.out.trans (hb3.mono HBE.out.size)); clear hb3)
                    go_ret
                    exact ⟨rfl, (HBX.out _ HB3.out).1⟩
                  · rw [if_pos rfl] at hm
                    have hM2 := Lib.hid hm
                    clear hm
                    go_wp2_with (go_at_call 53; refine HI.out.mono ?_; (rintro r w3 ⟨rfl, hb3⟩); have HB3 := Lib.hid (HBE.out.trans (hb3.mono HBE.out.size)); clear hb3)
                    go_roundw
                    case rel => exact ⟨i + 1, by omega, by go_num, hM2, HB3⟩
                    case measure => simp [intOf]; omega
            · obtain rfl : LL = i := by omega
              have hm := HM.out
              have he := Obs.drop_end l
              rw [HLL.out] at he
              rw [he, mayL] at hm
              subst hm
              clear he
              go_wp2_with fail
              go_ret
              exact ⟨by first | rfl | (simp; done) | (simp; omega), (HBX.out _ HBE.out).1⟩
      · have n1 : (n == 0) = false := beq_eq_false_iff_ne.2 hn0
        rw [show (if (6 : Int) = 1 then _ else _) = false by simp [hn0]]
        rcases Nat.eq_zero_or_pos LL with hL0 | hL0
        · subst hL0
          go_enter Try.func53, Try.ntmps53
          go_wp2_with (go_at_call 60; refine (HHS.out _).mono ?_; (rintro r w2 ⟨rfl, hb2⟩); have HB2 := Lib.hid hb2; obtain ⟨_, p0, p1, p2, p3, p4⟩ := HBX.out w2 hb2; clear hb2)
          go_ret
          exact ⟨rfl, (HBX.out _ HB2.out).1⟩
        · have i2 : (LL : Int) > 0 := by omega
          go_enter Try.func53, Try.ntmps53
          go_wp2_with (go_at_call 60; refine (HHS.out _).mono ?_; (rintro r w2 ⟨rfl, hb2⟩); have HB2 := Lib.hid hb2; obtain ⟨_, p0, p1, p2, p3, p4⟩ := HBX.out w2 hb2; clear hb2)
          go_ret
          exact ⟨rfl, (HBX.out _ HB2.out).1⟩
    · have i1 : (mb : Int) > 0 := by omega
      rw [if_pos (by simp [badF]; omega)]
      rcases Nat.eq_zero_or_pos LL with hL0 | hL0
      · subst hL0
        go_enter Try.func53, Try.ntmps53
        go_wp2_with (go_at_call 60; refine (HHS.out _).mono ?_; (rintro r w2 ⟨rfl, hb2⟩); have HB2 := Lib.hid hb2; obtain ⟨_, p0, p1, p2, p3, p4⟩ := HBX.out w2 hb2; clear hb2)
        go_ret
        exact ⟨rfl, (HBX.out _ HB2.out).1⟩
      · have i2 : (LL : Int) > 0 := by omega
        go_enter Try.func53, Try.ntmps53
        go_wp2_with (go_at_call 60; refine (HHS.out _).mono ?_; (rintro r w2 ⟨rfl, hb2⟩); have HB2 := Lib.hid hb2; obtain ⟨_, p0, p1, p2, p3, p4⟩ := HBX.out w2 hb2; clear hb2)
        go_ret
        exact ⟨rfl, (HBX.out _ HB2.out).1⟩
  · have i1 : (DD : Int) > 0 := by omega
    rw [if_pos (by simp [badF]; omega)]
    rcases Nat.eq_zero_or_pos LL with hL0 | hL0
    · subst hL0
      go_enter Try.func53, Try.ntmps53
      go_wp2_with (go_at_call 60; refine (HHS.out _).mono ?_; (rintro r w2 ⟨rfl, hb2⟩); have HB2 := Lib.hid hb2; obtain ⟨_, p0, p1, p2, p3, p4⟩ := HBX.out w2 hb2; clear hb2)
      go_ret
      exact ⟨rfl, (HBX.out _ HB2.out).1⟩
    · have i2 : (LL : Int) > 0 := by omega
      go_enter Try.func53, Try.ntmps53
      go_wp2_with (go_at_call 60; refine (HHS.out _).mono ?_; (rintro r w2 ⟨rfl, hb2⟩); have HB2 := Lib.hid hb2; obtain ⟨_, p0, p1, p2, p3, p4⟩ := HBX.out w2 hb2; clear hb2)
      go_ret
      exact ⟨rfl, (HBX.out _ HB2.out).1⟩
end Go.Proofs.Ytkloipjkialakaa
