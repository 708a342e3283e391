/- Contracts of functions that the law calls, and what they lean on (a part). -/
import Derived.Deep.QuietTactic
import Derived.BigQuiet
import Derived.Test.YtliieeagbpmcgaaDoorPu3
namespace Go.Proofs.YtliieeagbpmcgaaDoor
section
open Go.RowKit
set_option linter.unusedVariables false
set_option maxRecDepth 100000
def Obs.dropN : Obs → Nat → Obs
  | l, 0 => l
  | .nil, _ + 1 => .nil
  | .cons _ xs, i + 1 => xs.dropN i
def Ens.dropN : Ens → Nat → Ens
  | l, 0 => l
  | .nil, _ + 1 => .nil
  | .cons _ _ xs, i + 1 => xs.dropN i
theorem Obs.drop_get : ∀ (l : Obs) (i : Nat) (x : Ob), l.get? i = some x → l.dropN i = .cons x (l.dropN (i + 1))
  | .nil, i, x, h => by simp [Obs.get?] at h
  | .cons y xs, 0, x, h => by
    simp [Obs.get?] at h
    subst h
    cases xs <;> rfl
  | .cons y xs, i + 1, x, h => Obs.drop_get xs i x (by simpa [Obs.get?] using h)
theorem Ens.drop_get : ∀ (l : Ens) (i : Nat) (s : ByteArray) (x : Ob), l.get? i = some (s, x) → l.dropN i = .cons s x (l.dropN (i + 1))
  | .nil, i, s, x, h => by simp [Ens.get?] at h
  | .cons t y xs, 0, s, x, h => by
    simp [Ens.get?] at h
    obtain ⟨rfl, rfl⟩ := h
    cases xs <;> rfl
  | .cons t y xs, i + 1, s, x, h => Ens.drop_get xs i s x (by simpa [Ens.get?] using h)
theorem Obs.drop_end : ∀ (l : Obs), l.dropN l.len = .nil
  | .nil => rfl
  | .cons x xs => Obs.drop_end xs
theorem Ens.drop_end : ∀ (l : Ens), l.dropN l.len = .nil
  | .nil => rfl
  | .cons s x xs => Ens.drop_end xs
end

section
open Go.RowKit
set_option linter.unusedVariables false
set_option maxRecDepth 100000
mutual
def roomO : Ob → Int → Int → Bool
  | .mk k n b l d, dp, m => if dp < 0 ∨ 3000 < b.length ∨ m < IntKind.i64.wrap ((l.len : Int) + (d.len : Int)) then false else roomL l (dp - 1) m && roomE d (dp - 1) m
def roomL : Obs → Int → Int → Bool
  | .nil, _, _ => true
  | .cons x xs, dp, m => roomO x dp m && roomL xs dp m
def roomE : Ens → Int → Int → Bool
  | .nil, _, _ => true
  | .cons s x xs, dp, m => (if 300 < s.size then false else roomO x dp m) && roomE xs dp m
end
set_option maxHeartbeats 4000000 in
theorem roomC : ∀ (N : Nat) (x : Ob), x.sz ≤ N → ∀ (S : Nat → Prop) (w : World) (c0 c1 c2 c3 c4 : Value) (dp m : Int), ObR w S x c0 c1 c2 c3 c4 → (∀ g, S g → g < w.heap.size) → (-9223372036854775808 ≤ dp ∧ dp ≤ 9223372036854775807) →
    Calls Tryd.prog 5 #[.agg #[c0, c1, c2, c3, c4], .int .i64 dp, .int .i64 m] w fun r w' => r = .returned (.bool (roomO x dp m)) ∧ Below w.heap.size w w'
  | 0, .mk k n b l d, hN => by rw [Ob.sz] at hN; omega
  | N + 1, .mk k n b l d, hN => by
    intro S w c0 c1 c2 c3 c4 dp m hx hS hdp
    have IH := Lib.hid (roomC N)
    unfold ObR at hx
    obtain ⟨rfl, rfl, hk, hn, ⟨AB, mb, cb, rfl, hB⟩, ⟨AL, cL, rfl, hlc, hl⟩, ⟨AD, cD, rfl, hdc, hd⟩⟩ := hx
    rw [Ob.sz] at hN
    obtain ⟨LL, hLL⟩ : ∃ LL, l.len = LL := ⟨_, rfl⟩
    obtain ⟨DD, hDD⟩ : ∃ DD, d.len = DD := ⟨_, rfl⟩
    have hbl : b.length = mb := hB.1
    rw [roomO, hbl]
    rw [hLL] at hlc ⊢
    rw [hDD] at hdc ⊢
    have hb1 := (Below.refl w.heap.size w).alloc (Nat.le_refl _) (.cells #[.int .i64 k, .int .i64 n, .slice AB mb cb, .slice AL LL cL, .slice AD DD cD] 26)
    have hnew := heap_alloc_new w (.cells #[.int .i64 k, .int .i64 n, .slice AB mb cb, .slice AL LL cL, .slice AD DD cD] 26)
    obtain ⟨W1, hW1⟩ : ∃ W1, w.alloc (.cells #[.int .i64 k, .int .i64 n, .slice AB mb cb, .slice AL LL cL, .slice AD DD cD] 26) = W1 := ⟨_, rfl⟩
    have hs1 : W1.heap.size = w.heap.size + 1 := by rw [← hW1]; simp
    rw [hW1] at hb1 hnew
    have m2 : W1.cell? ⟨w.heap.size, 2, none⟩ = some (.slice AB mb cb) := cell_of_row _ _ 2 _ _ (0, 0) hnew
    have m3 : W1.cell? ⟨w.heap.size, 3, none⟩ = some (.slice AL LL cL) := cell_of_row _ _ 3 _ _ (0, 0) hnew
    have m4 : W1.cell? ⟨w.heap.size, 4, none⟩ = some (.slice AD DD cD) := cell_of_row _ _ 4 _ _ (0, 0) hnew
    have HW1 := Lib.hid hb1
    have HNEW2 := Lib.hid hnew
    have HS1 := Lib.hid hs1
    have HL := Lib.hid hl
    have HD := Lib.hid hd
    have HS := Lib.hid hS
    have HLL := Lib.hid hLL
    have HDD := Lib.hid hDD
    have HN := Lib.hid hN
    obtain ⟨SM, hSM⟩ : ∃ SM, IntKind.i64.wrap ((LL : Int) + (DD : Int)) = SM := ⟨_, rfl⟩
    rw [hSM]
    have HCHAIN : Hid (∀ wr, Below W1.heap.size W1 wr → Below w.heap.size w wr ∧ wr.heap[w.heap.size]? = some (.cells #[.int .i64 k, .int .i64 n, .slice AB mb cb, .slice AL LL cL, .slice AD DD cD] 26 (0, 0))) := Lib.hid fun wr h => ⟨hb1.trans (h.mono (by omega)), (h.block w.heap.size (by omega)).trans hnew⟩
    clear hl hd hS hB hnew hb1 hs1 hLL hDD hN hbl
    by_cases h1 : dp < 0
    · rw [if_pos (.inl h1)]
      go_enter Tryd.func5, Tryd.ntmps5
      go_wp2_with fail
      go_ret
      exact ⟨rfl, HW1.out⟩
    · by_cases h2 : 3000 < mb
      · rw [if_pos (.inr (.inl h2))]
        have i2 : decide (3000 < mb) = true := decide_eq_true h2
        have i2' : (mb : Int) > 3000 := by omega
        go_enter Tryd.func5, Tryd.ntmps5
        go_wp2_with fail
        go_ret
        exact ⟨rfl, HW1.out⟩
      · have i2 : decide (3000 < mb) = false := decide_eq_false h2
        have i2' : ¬ (mb : Int) > 3000 := by omega
        by_cases h3 : m < SM
        · rw [if_pos (.inr (.inr h3))]
          go_enter Tryd.func5, Tryd.ntmps5
          go_wp2_with fail
          go_ret
          exact ⟨rfl, HW1.out⟩
        · rw [if_neg (fun h => by rcases h with h | h | h <;> first | exact h1 h | exact h2 h | exact h3 h)]
          have w1 : IntKind.i64.wrap (dp - 1) = dp - 1 := IntWalk.i64_in _ (by omega)
          have hdp1 : -9223372036854775808 ≤ dp - 1 ∧ dp - 1 ≤ 9223372036854775807 := by omega
          obtain ⟨RR, hRR⟩ : ∃ RR, (roomL l (dp - 1) m && roomE d (dp - 1) m) = RR := ⟨_, rfl⟩
          obtain ⟨D1, hD1⟩ : ∃ D1, dp - 1 = D1 := ⟨_, rfl⟩
          rw [hD1] at hRR w1 hdp1
          rw [show (roomL l (dp - 1) m && roomE d (dp - 1) m) = RR by rw [hD1]; exact hRR]
          have HRR := Lib.hid hRR
          have HDP := Lib.hid hdp1
          clear hRR hdp1 h2
          go_enter Tryd.func5, Tryd.ntmps5
          go_wp2_with fail
          go_loopw [7] (fun iv wr => ∃ (i : Nat), i ≤ LL ∧ iv = .int .i64 i ∧ Hid ((roomL (l.dropN i) D1 m && roomE d D1 m) = RR) ∧ Hid (Below W1.heap.size W1 wr)) (fun iv _ => LL - (intOf iv).toNat)
          case atStart => exact ⟨0, Nat.zero_le _, rfl, Lib.hid (by rw [← HRR.out]; cases l <;> rfl), Lib.hid (Below.refl _ _)⟩
          case round =>
            obtain ⟨i, hi, rfl, HM, HBE⟩ := hrel
            have hbox := (HCHAIN.out wr HBE.out).2
            have m3 : wr.cell? ⟨w.heap.size, 3, none⟩ = some (.slice AL LL cL) := cell_of_row _ _ 3 _ _ (0, 0) hbox
            by_cases hlt : i < LL
            · have hgt := l.get_some i (by rw [HLL.out]; exact hlt)
              obtain ⟨y, hy⟩ := hgt
              obtain ⟨g, o, rfl, hg, hobs⟩ := HL.out (by rw [HLL.out]; omega)
              have hww := (HCHAIN.out wr HBE.out).1
              have hobs2 := ObsR.keep (S' := S) (fun b hb => hww.block b (HS.out b hb)) (fun b hb => hb) l g o hg hg hobs
              obtain ⟨d0, d1, d2, d3, d4, k0, k1, k2, k3, k4, hyr⟩ := hobs2.get l g o i y hy
              have hysz := l.get_sz i y hy
              have HI := Lib.hid (IH.out y (by have := HN.out; omega) S wr d0 d1 d2 d3 d4 D1 m hyr (fun b hb => Nat.lt_of_lt_of_le (HS.out b hb) hww.size) HDP.out)
              have hm := HM.out
              rw [l.drop_get i y hy, roomL] at hm
              obtain ⟨RY, hRY⟩ : ∃ RY, roomO y D1 m = RY := ⟨_, rfl⟩
              rw [hRY] at hm HI
              have hli : (i : Int) < LL := by omega
              cases RY
              · have hR0 : RR = false := by rw [← hm]; rfl
                subst hR0
                clear hbox hy hobs hobs2 hyr hysz hm hRY hww hg
                go_wp2_with (go_at_call 5; refine HI.out.mono ?_; (rintro r w3 ⟨rfl, hb3⟩); have HB3 := Lib.hid (HBE.out.trans (hb3.mono HBE.out.size)); clear hb3)
                go_ret
                exact ⟨rfl, (HCHAIN.out _ HB3.out).1⟩
              · have hM2 : Hid ((roomL (l.dropN (i + 1)) D1 m && roomE d D1 m) = RR) := Lib.hid (by rw [← hm]; simp)
                clear hbox hy hobs hobs2 hyr hysz hm hRY hww hg
                go_wp2_with (go_at_call 5; refine HI.out.mono ?_; (rintro r w3 ⟨rfl, hb3⟩); have HB3 := Lib.hid (HBE.out.trans (hb3.mono HBE.out.size)); clear hb3)
                go_roundw
                case rel => exact ⟨i + 1, by omega, by go_num, hM2, HB3⟩
                case measure => simp [intOf]; omega
            · obtain rfl : LL = i := by omega
              have hm := HM.out
              have he := Obs.drop_end l
              rw [HLL.out] at he
              rw [he, roomL, Bool.true_and] at hm
              have HM1 := Lib.hid hm
              obtain ⟨W2, hW2⟩ : ∃ W2, wr = W2 := ⟨_, rfl⟩
              subst hW2
              clear hm he hbox
              go_wp2_with fail
              go_loopw [8] (fun iv wr => ∃ (i : Nat), i ≤ DD ∧ iv = .int .i64 i ∧ Hid (roomE (d.dropN i) D1 m = RR) ∧ Hid (Below W1.heap.size W1 wr)) (fun iv _ => DD - (intOf iv).toNat)
              case atStart => exact ⟨0, Nat.zero_le _, rfl, Lib.hid (by rw [← HM1.out]; cases d <;> rfl), HBE⟩
              case round =>
                obtain ⟨i, hi, rfl, HM, HBE⟩ := hrel
                have hbox := (HCHAIN.out wr HBE.out).2
                have m3 : wr.cell? ⟨w.heap.size, 4, none⟩ = some (.slice AD DD cD) := cell_of_row _ _ 4 _ _ (0, 0) hbox
                by_cases hlt : i < DD
                · have hgt := d.get_some i (by rw [HDD.out]; exact hlt)
                  obtain ⟨sy, y, hy⟩ := hgt
                  obtain ⟨g, o, rfl, hg, hobs⟩ := HD.out (by rw [HDD.out]; omega)
                  have hww := (HCHAIN.out wr HBE.out).1
                  have hobs2 := EnsR.keep (S' := S) (fun b hb => hww.block b (HS.out b hb)) (fun b hb => hb) d g o hg hg hobs
                  obtain ⟨d0, d1, d2, d3, d4, ks, k0, k1, k2, k3, k4, hyr⟩ := hobs2.get d g o i sy y hy
                  have hysz := d.get_sz i sy y hy
                  have HI := Lib.hid (IH.out y (by have := HN.out; omega) S wr d0 d1 d2 d3 d4 D1 m hyr (fun b hb => Nat.lt_of_lt_of_le (HS.out b hb) hww.size) HDP.out)
                  have hm := HM.out
                  rw [d.drop_get i sy y hy, roomE] at hm
                  obtain ⟨RY, hRY⟩ : ∃ RY, roomO y D1 m = RY := ⟨_, rfl⟩
                  rw [hRY] at hm HI
                  have hli : (i : Int) < DD := by omega
                  by_cases hs3 : 300 < sy.size
                  · have hR0 : RR = false := by rw [← hm, if_pos hs3]; rfl
                    subst hR0
                    have i3' : (sy.size : Int) > 300 := by omega
                    have i3 : decide (300 < sy.size) = true := decide_eq_true hs3
                    clear hbox hy hobs hobs2 hyr hysz hm hRY hww hg HI
                    go_wp2_with fail
                    go_ret
                    exact ⟨rfl, (HCHAIN.out _ HBE.out).1⟩
                  · rw [if_neg hs3] at hm
                    have i3' : ¬ (sy.size : Int) > 300 := by omega
                    have i3 : decide (300 < sy.size) = false := decide_eq_false hs3
                    cases RY
                    · have hR0 : RR = false := by rw [← hm]; rfl
                      subst hR0
                      clear hbox hy hobs hobs2 hyr hysz hm hRY hww hg
                      go_wp2_with (go_at_call 5; refine HI.out.mono ?_; (rintro r w3 ⟨rfl, hb3⟩); have HB3 := Lib.hid (HBE.out.trans (hb3.mono HBE.out.size)); clear hb3)
                      go_ret
                      exact ⟨rfl, (HCHAIN.out _ HB3.out).1⟩
                    · have hM2 : Hid (roomE (d.dropN (i + 1)) D1 m = RR) := Lib.hid (by rw [← hm]; simp)
                      clear hbox hy hobs hobs2 hyr hysz hm hRY hww hg
                      go_wp2_with (go_at_call 5; refine HI.out.mono ?_; (rintro r w3 ⟨rfl, hb3⟩); have HB3 := Lib.hid (HBE.out.trans (hb3.mono HBE.out.size)); clear hb3)
                      go_roundw
                      case rel => exact ⟨i + 1, by omega, by go_num, hM2, HB3⟩
                      case measure => simp [intOf]; omega
                · obtain rfl : DD = i := by omega
                  have hm := HM.out
                  have he := Ens.drop_end d
                  rw [HDD.out] at he
                  rw [he, roomE] at hm
                  subst hm
                  clear he hbox
                  go_wp2_with fail
                  go_ret
                  exact ⟨rfl, (HCHAIN.out _ HBE.out).1⟩
end
end Go.Proofs.YtliieeagbpmcgaaDoor
