/- CosMakes: the five makers, beside the document's own. -/
import Derived.Test.YtkloipjkialakaaMv10
import Derived.Test.YtkloipjkialakaaRx10
namespace Go.Proofs.Ytkloipjkialakaa
open Go.ChangeShapes Go.WideShapes Go.ChangeAt Go.RowKit Go.Deep
set_option linter.unusedVariables false
set_option maxRecDepth 100000

def OKS (l : Ens) (i : Nat) : Prop := ∀ j, j < i → ∀ s x, l.get? j = some (s, x) → roomO x 6 40 = true ∧ mayO x 28 = true
theorem oks_all {l : Ens} {w : World} {S : Nat → Prop} {A : Option Addr} {c : Nat} (h : OKS l l.len) (hl : EnsV w S l A c) : wdE 40 l ∧ htE l ≤ 7 ∧ okE l ∧ (∀ p ∈ l.toL, 0 ≤ p.2.kind ∧ p.2.kind ≤ 9) := by
  refine ens_all 40 7 l (fun i s x hx => ?_)
  have hi : i < l.len := by
    rcases Nat.lt_or_ge i l.len with h1 | h1
    · exact h1
    · rw [Ens.get_none l i h1] at hx; cases hx
  obtain ⟨h1, h2⟩ := h i hi s x hx
  obtain ⟨g, o, _, _, hr⟩ := hl.2 (by omega)
  obtain ⟨c0, c1, c2, c3, c4, _, _, _, _, _, _, hxr⟩ := hr.get l g o i s x hx
  have := roomW 40 (by omega) x c0 c1 c2 c3 c4 28 6 hxr h2 h1
  exact ⟨this.1, by have := this.2.1; omega, this.2.2, may_kind h2⟩
set_option maxHeartbeats 8000000 in
theorem makes_walk (l : Ens) (A : Option Addr) (cap : Nat) (AB : Option Addr) (n c : Nat) (zs : List Int) (w : World) (hl : EnsV w (fun g => g < w.heap.size) l A cap) (hb : Byt w w.heap.size AB n c zs) (hc : c ≤ 9223372036854775807) :
    Calls Try.prog 5 #[.slice A l.len cap, .slice AB n c] w fun e w' => e = .returned (.bool true) ∧ Below w.heap.size w w' := by
  have HEV := Lib.hid hl
  have HBY := Lib.hid hb
  have HCC := Lib.hid hc
  have HAW := Lib.hid (awake_any w)
  obtain ⟨LL, hLL⟩ : ∃ LL, l.len = LL := ⟨_, rfl⟩
  have HLL := Lib.hid hLL
  rw [hLL]
  clear hl hb hc hLL
  by_cases h1 : 40 < LL
  · have i1 : (LL : Int) > 40 := by omega
    go_enter Try.func5, Try.ntmps5
    go_wp2_with (go_at_call 9; refine HAW.out.mono ?_; (rintro r w0 ⟨rfl, hb0⟩); have HB0 := Lib.hid hb0; clear hb0)
    go_ret
    exact ⟨rfl, HB0.out⟩
  · have i1 : ¬ (LL : Int) > 40 := by omega
    by_cases h2 : 200 < n
    · have i2 : (n : Int) > 200 := by omega
      go_enter Try.func5, Try.ntmps5
      go_wp2_with (go_at_call 9; refine HAW.out.mono ?_; (rintro r w0 ⟨rfl, hb0⟩); have HB0 := Lib.hid hb0; clear hb0)
      go_ret
      exact ⟨rfl, HB0.out⟩
    · have i2 : ¬ (n : Int) > 200 := by omega
      have HL40 : Hid (LL ≤ 40) := Lib.hid (by omega)
      have HN2 : Hid (n ≤ 200) := Lib.hid (by omega)
      go_enter Try.func5, Try.ntmps5
      go_wp2_with (go_at_call 9; refine HAW.out.mono ?_; (rintro r w0 ⟨rfl, hb0⟩); have HB0 := Lib.hid hb0; clear hb0)
      clear i1 i2 h1 h2
      go_loopw [5] (fun iv wr => ∃ (i : Nat), i ≤ LL ∧ iv = .int .i64 i ∧ Hid (OKS l i) ∧ Hid (Below w.heap.size w wr)) (fun iv _ => LL - (intOf iv).toNat)
      case atStart => exact ⟨0, Nat.zero_le _, rfl, Lib.hid (fun j h => absurd h (by omega)), HB0⟩
      case round =>
        obtain ⟨i, hi, rfl, HOK, HBE⟩ := hrel
        by_cases hlt : i < LL
        · obtain ⟨sy, y, hy⟩ := l.get_some i (by rw [HLL.out]; exact hlt)
          obtain ⟨g, o, rfl, hg, hobs⟩ := HEV.out.2 (by rw [HLL.out]; omega)
          obtain ⟨d0, d1, d2, d3, d4, ks, k0, k1, k2, k3, k4, hyr⟩ := hobs.get l g o i sy y hy
          have HK : Hid (∀ W, Below w.heap.size w W → W.cell? ⟨g, o + i * 6, none⟩ = some (.string sy) ∧ W.cell? ⟨g, o + i * 6 + 1, none⟩ = some d0 ∧ W.cell? ⟨g, o + i * 6 + 2, none⟩ = some d1 ∧ W.cell? ⟨g, o + i * 6 + 3, none⟩ = some d2 ∧ W.cell? ⟨g, o + i * 6 + 4, none⟩ = some d3 ∧ W.cell? ⟨g, o + i * 6 + 5, none⟩ = some d4) := Lib.hid (fun W hW => by
            have e := fun j => World.cell?_of_block (a := ⟨g, j, none⟩) (hW.block g hg)
            exact ⟨(e _).trans ks, (e _).trans k0, (e _).trans k1, (e _).trans k2, (e _).trans k3, (e _).trans k4⟩)
          have HYR : Hid (∀ W, Below w.heap.size w W → ObR W (fun g => g < w.heap.size) y d0 d1 d2 d3 d4) := Lib.hid (fun W hW => ObR.keep (fun b hb => hW.block b hb) (fun _ h => h) y hyr)
          have HRM0 := fun W (hW : Below w.heap.size w W) => roomC _ y (Nat.le_refl _) (fun g => g < w.heap.size) W d0 d1 d2 d3 d4 6 40 (HYR.out W hW) (fun g hg => Nat.lt_of_lt_of_le hg hW.size) (by omega)
          have HMY0 := fun W (hW : Below w.heap.size w W) => mayTopC y (fun g => g < w.heap.size) W d0 d1 d2 d3 d4 (HYR.out W hW) (fun g hg => Nat.lt_of_lt_of_le hg hW.size)
          obtain ⟨RM, hRM⟩ : ∃ RM, roomO y 6 40 = RM := ⟨_, rfl⟩
          obtain ⟨MY, hMY⟩ : ∃ MY, mayO y 28 = MY := ⟨_, rfl⟩
          simp only [hRM] at HRM0
          simp only [hMY] at HMY0
          have HRM := Lib.hid HRM0
          have HMY := Lib.hid HMY0
          have hli : (i : Int) < LL := by omega
          obtain ⟨m0, m1, m2, m3, m4, m5⟩ := HK.out wr HBE.out
          have HNX : Hid (RM = true → MY = true → OKS l (i + 1)) := Lib.hid (fun e1 e2 j hj s x hx => by
            rcases Nat.lt_or_ge j i with h | h
            · exact HOK.out j h s x hx
            · obtain rfl : j = i := by omega
              rw [hy] at hx
              injection hx with hx
              injection hx with hx1 hx2
              subst hx1 hx2
              exact ⟨hRM.trans e1, hMY.trans e2⟩)
          clear HRM0 HMY0 hRM hMY hy hobs hyr hg ks k0 k1 k2 k3 k4
          by_cases hk : 300 < sy.size
          · have ik : (sy.size : Int) > 300 := by omega
            go_wp2_with fail
            go_ret
            exact ⟨rfl, HBE.out⟩
          · have ik : ¬ (sy.size : Int) > 300 := by omega
            cases RM
            · go_wp2_with (go_at_call 26; refine (HRM.out _ HBE.out).mono ?_; (rintro r w3 ⟨rfl, hb3⟩); have HB3 := Lib.hid (HBE.out.trans (hb3.mono HBE.out.size)); clear hb3)
              go_ret
              exact ⟨rfl, HB3.out⟩
            · cases MY
              · go_wp2_with (first
                  | (go_at_call 26; refine (HRM.out _ HBE.out).mono ?_; (rintro r w3 ⟨rfl, hb3⟩); have HB3 := Lib.hid (HBE.out.trans (hb3.mono HBE.out.size)); obtain ⟨p0, p1, p2, p3, p4, p5⟩ := HK.out _ HB3.out; clear hb3)
                  | (go_at_call 27; refine (HMY.out _ HB3.out).mono ?_; (rintro r w4 ⟨rfl, hb4⟩); have HB4 := Lib.hid (HB3.out.trans (hb4.mono HB3.out.size)); clear hb4))
                go_ret
                exact ⟨rfl, HB4.out⟩
              · go_wp2_with (first
                  | (go_at_call 26; refine (HRM.out _ HBE.out).mono ?_; (rintro r w3 ⟨rfl, hb3⟩); have HB3 := Lib.hid (HBE.out.trans (hb3.mono HBE.out.size)); obtain ⟨p0, p1, p2, p3, p4, p5⟩ := HK.out _ HB3.out; clear hb3)
                  | (go_at_call 27; refine (HMY.out _ HB3.out).mono ?_; (rintro r w4 ⟨rfl, hb4⟩); have HB4 := Lib.hid (HB3.out.trans (hb4.mono HB3.out.size)); clear hb4))
                go_roundw
                case rel => exact ⟨i + 1, by omega, by go_num, Lib.hid (HNX.out (by trivial) (by trivial)), HB4⟩
                case measure => simp [intOf]; omega
        · obtain rfl : LL = i := by omega
          have hok := HOK.out
          rw [← HLL.out] at hok
          have HALL := Lib.hid (oks_all hok HEV.out)
          obtain ⟨wq, hwq⟩ : ∃ wq, wr = wq := ⟨_, rfl⟩
          subst hwq
          have HBE0 := HBE
          clear hok HOK hi hlt
          go_wp2_with fail
          go_loopw [6, 7] (fun sv iv wz => ∃ (i cV : Nat) (AV : Option Addr), i ≤ LL ∧ iv = .int .i64 i ∧ sv = .slice AV i cV ∧ Hid (Below w.heap.size w wz) ∧ Hid (OwnO (fun g => g < w.heap.size) wz w.heap.size (.slice AV i cV) ((valsE l).takeN i))) (fun _ iv _ => LL - (intOf iv).toNat)
          case atStart => exact ⟨0, 0, none, Nat.zero_le _, rfl, rfl, HBE0, Lib.hid (by rw [Obs.take_zero]; exact OwnO.nil _ _ _)⟩
          case round =>
            obtain ⟨i, cV, AV, hi, rfl, rfl, HBZ, HOW⟩ := hrel
            by_cases hlt : i < LL
            · obtain ⟨sy, y, hy⟩ := l.get_some i (by rw [HLL.out]; exact hlt)
              obtain ⟨g, o, rfl, hg, hobs⟩ := HEV.out.2 (by rw [HLL.out]; omega)
              have hvg := valsE_get l i sy y hy
              have hvl := valsE_len l
              obtain ⟨d0, d1, d2, d3, d4, ks, k0, k1, k2, k3, k4, hyr⟩ := hobs.get l g o i sy y hy
              have hww := HBZ.out
              have e := fun j => World.cell?_of_block (a := ⟨g, j, none⟩) (hww.block g hg)
              have m0 := (e _).trans k0
              have m1 := (e _).trans k1
              have m2 := (e _).trans k2
              have m3 := (e _).trans k3
              have m4 := (e _).trans k4
              have hti : ((valsE l).takeN i).len = i := Obs.take_len _ i (by rw [hvl, HLL.out]; exact hi)
              have HTS := Lib.hid (Obs.take_snoc (valsE l) i y hvg)
              have hap := OwnO.old1 HOW.out y (ObR.keep (fun b hb => hww.block b hb) (fun _ h => h) y hyr) (by rw [hti]; have := HL40.out; omega) hww.size (fun g hg => hg)
              rw [hti, ← HTS.out] at hap
              have HAP := Lib.hid hap
              have hli : (i : Int) < LL := by omega
              clear hy hobs hg hvg hvl hyr e ks k0 k1 k2 k3 k4 hww hti hap HTS
              go_wp2_with (at_builtin; obtain ⟨A6, c6, w3, hrun, ho6, hb6⟩ := HAP.out; refine Lib.wpList_append_run_sl _ rfl (.tmp 55) (.tmp 61) 24 rfl _ _ rfl rfl hrun ?_; have HO6 := Lib.hid ho6; have HB6 := Lib.hid (HBZ.out.trans hb6); clear hrun ho6 hb6 HAP)
              go_roundw
              case rel => exact ⟨i + 1, c6, A6, by omega, by go_num, rfl, HB6, HO6⟩
              case measure => simp [intOf]; omega
            · obtain rfl : LL = i := by omega
              have hOW := HOW.out
              rw [show (valsE l).takeN LL = valsE l by rw [← HLL.out, ← valsE_len]; exact Obs.take_all _] at hOW
              obtain ⟨AX, cX, eX, hcX, hxX⟩ := hOW.shape
              have hvl := valsE_len l
              obtain ⟨rfl, rfl⟩ : AV = AX ∧ cV = cX := by
                injection eX with e1 e2 e3
                exact ⟨e1, e3⟩
              obtain ⟨q1, q2, q3, q4⟩ := HALL.out
              obtain ⟨s, hss, hcv⟩ := str_of HBY.out
              have hzl := HBY.out.len
              have HSS : Hid (∀ W, Below wr.heap.size wr W → (convert 23 9 (.slice AB n c)).run Try.prog W = .ok (.string s) W) := Lib.hid (fun W hW => hcv W (HBZ.out.trans (hW.mono HBZ.out.size)))
              have hle : l.len ≤ 40 := by rw [HLL.out]; exact HL40.out
              have HD1 : Hid (∀ W, Below wr.heap.size wr W → Calls Try.prog 12 #[.slice A LL cap] W (CpP W (.mk 7 0 [] .nil (dictF l .nil)))) := Lib.hid (fun W hW => by
                have hw := HBZ.out.trans (hW.mono HBZ.out.size)
                have h := pDictC 40 l (fun g => g < w.heap.size) W A cap (HEV.out.keep (fun g hg => hw.block g hg) (fun _ h => h)) (fun g hg => Nat.lt_of_lt_of_le hg hw.size) q4 q1 hle (by omega) (by omega)
                rw [HLL.out] at h; exact h)
              have HD2 : Hid (∀ W, Below wr.heap.size wr W → Calls Try.prog 31 #[.slice A LL cap] W (CpP W (.mk 7 0 [] .nil (dictF l .nil)))) := Lib.hid (fun W hW => by
                have hw := HBZ.out.trans (hW.mono HBZ.out.size)
                have h := dictC l (fun g => g < w.heap.size) W A cap (HEV.out.keep (fun g hg => hw.block g hg) (fun _ h => h)) (fun g hg => Nat.lt_of_lt_of_le hg hw.size) q3 (by omega)
                rw [HLL.out] at h; exact h)
              have HS1 : Hid (∀ W, Below wr.heap.size wr W → Calls Try.prog 18 #[.slice AB n c, .slice A LL cap] W (CpP W (.mk 8 0 zs .nil (dictF l .nil)))) := Lib.hid (fun W hW => by
                have hw := HBZ.out.trans (hW.mono HBZ.out.size)
                have h := pStreamC 40 AB c zs l (fun g => g < w.heap.size) W A cap (by rw [hzl]; exact ByS HBY.out HCC.out hw) (by rw [hzl]; have := HN2.out; omega) (HEV.out.keep (fun g hg => hw.block g hg) (fun _ h => h)) (fun g hg => Nat.lt_of_lt_of_le hg hw.size) q4 q1 hle (by omega) (by omega)
                rw [HLL.out, hzl] at h; exact h)
              have HS2 : Hid (∀ W, Below wr.heap.size wr W → Calls Try.prog 32 #[.slice AB n c, .slice A LL cap] W (CpP W (.mk 8 0 zs .nil (dictF l .nil)))) := Lib.hid (fun W hW => by
                have hw := HBZ.out.trans (hW.mono HBZ.out.size)
                have h := streamC AB n c zs l (fun g => g < w.heap.size) W A cap ((HBY.out.below hw (Nat.le_refl _)).more hw.size) (by have := HN2.out; omega) (HEV.out.keep (fun g hg => hw.block g hg) (fun _ h => h)) (fun g hg => Nat.lt_of_lt_of_le hg hw.size) q3 (by omega)
                rw [HLL.out] at h; exact h)
              have hov : ObsV wr (fun g => (g < w.heap.size ∨ w.heap.size ≤ g) ∧ g < wr.heap.size) (valsE l) AV cV := ⟨hcX, hxX⟩
              have HA1 : Hid (∀ W, Below wr.heap.size wr W → Calls Try.prog 10 #[.slice AV LL cV] W (CpP W (.mk 6 0 [] (valsE l) .nil))) := Lib.hid (fun W hW => by
                have h := pArrC 40 (valsE l) _ W AV cV (hov.keep (fun g hg => hW.block g hg.2) (fun _ h => h)) (fun g hg => Nat.lt_of_lt_of_le hg.2 hW.size) (valsE_wd 40 l q1) (by rw [hvl]; exact hle) (by rw [valsE_ht]; omega)
                rw [hvl, HLL.out] at h; exact h)
              have HA2 : Hid (∀ W, Below wr.heap.size wr W → Calls Try.prog 33 #[.slice AV LL cV] W (CpP W (.mk 6 0 [] (valsE l) .nil))) := Lib.hid (fun W hW => by
                have h := arrC (valsE l) _ W AV cV (hov.keep (fun g hg => hW.block g hg.2) (fun _ h => h)) (fun g hg => Nat.lt_of_lt_of_le hg.2 hW.size) (valsE_ok l q3) (by rw [hvl]; omega)
                rw [hvl, HLL.out] at h; exact h)
              have HT1 : Hid (∀ W, Below wr.heap.size wr W → Calls Try.prog 25 #[.slice AB n c] W (CpP W (.mk 4 0 zs .nil .nil))) := Lib.hid (fun W hW => by
                have hw := HBZ.out.trans (hW.mono HBZ.out.size)
                have h := pStrC AB c zs (fun g => g < w.heap.size) W (by rw [hzl]; exact ByS HBY.out HCC.out hw) (fun g hg => Nat.lt_of_lt_of_le hg hw.size) (by rw [hzl]; have := HN2.out; omega)
                rw [hzl] at h; exact h)
              have HT2 : Hid (∀ W, Below wr.heap.size wr W → Calls Try.prog 34 #[.slice AB n c] W (CpP W (.mk 4 0 zs .nil .nil))) := Lib.hid (fun W hW => by
                have hw := HBZ.out.trans (hW.mono HBZ.out.size)
                exact strC AB n c zs W ((HBY.out.below hw (Nat.le_refl _)).more hw.size) (by have := HN2.out; omega))
              have HN1 : Hid (∀ W, Below wr.heap.size wr W → Calls Try.prog 19 #[.string s] W (CpP W (.mk 5 0 (strZ s) .nil .nil))) := Lib.hid (fun W hW => pNameC s W (by have := HN2.out; omega))
              have HNN : Hid (∀ W, Below wr.heap.size wr W → Calls Try.prog 35 #[.string s] W (CpP W (.mk 5 0 (strZ s) .nil .nil))) := Lib.hid (fun W hW => nameOC s W (by have := HN2.out; omega))
              have HC : Hid (Below wr.heap.size wr wr.drew) := Lib.hid (Below.refl _ _).drew
              clear hOW hxX hcX hov q1 q2 q3 q4 hcv hss hzl hle hvl eX
              go_upto_region 15 with fail
              refine wp_region_heldR (fun W => (convert 23 9 (.slice AB n c)).run Try.prog W = .ok (.string s) W) 1000 (by kernel_rfl) (HSS.out _ HC.out) (fun hHeld => ?_)
              refine wpAnyR_take 0 rfl (by kernel_rfl) (by kernel_rfl) (by kernel_rfl) (by kernel_rfl) (fun _ _ _ h => h) (by rfl) (v := ?_) ?_ (by assumption) ?_
              rotate_left
              focus
                intro wS hSw
                (try dsimp only at hSw)
                go_simp
                (try simp only [hSw])
                try with_reducible rfl
              intro hHeld
              try simp only [Act.put, List.setIfInBounds_toArray, List.set_cons_zero, List.set_cons_succ]
              refine wpAnyR_take 2 rfl (by kernel_rfl) (by kernel_rfl) (by kernel_rfl) (by kernel_rfl) (fun _ _ _ h => h) (by rfl) (v := ?_) ?_ (by assumption) ?_
              rotate_left
              focus
                intro wS hSw
                (try dsimp only at hSw)
                go_simp
                (try simp only [hSw])
                try with_reducible rfl
              intro hHeld
              try simp only [Act.put, List.setIfInBounds_toArray, List.set_cons_zero, List.set_cons_succ]
              refine wpAnyR_step 1 rfl (by kernel_rfl) (fun K hK => ?_)
              go_simp
              go_at_call 12
              refine (HD1.out _ HC.out).mono ?_
              rintro r wA ⟨a0, a1, a2, a3, a4, rfl, hxA, hbA⟩
              have HXA := Lib.hid hxA
              have HC := Lib.hid (HC.out.trans (hbA.mono HC.out.size))
              clear hxA hbA
              go_wp2_with fail
              refine hK.out _ _ (HSS.out _ HC.out) (fun hHeld => ?_)
              clear hK K
              try simp only [Act.put, List.setIfInBounds_toArray, List.set_cons_zero, List.set_cons_succ]
              refine wpAnyR_step 3 rfl (by kernel_rfl) (fun K hK => ?_)
              go_simp
              go_at_call 31
              refine (HD2.out _ HC.out).mono ?_
              rintro r wB ⟨b0, b1, b2, b3, b4, rfl, hxB, hbB⟩
              have HSM := Lib.hid (same_yes _ wB (ObR.keep (fun g hg => hbB.block g hg.2) (fun g hg => Nat.lt_of_lt_of_le hg.2 hbB.size) _ HXA.out) (ObR.keep (fun _ _ => rfl) (fun g hg => hg.2) _ hxB))
              have HC := Lib.hid (HC.out.trans (hbB.mono HC.out.size))
              clear hxB hbB HXA
              go_wp2_with fail
              refine hK.out _ _ (HSS.out _ HC.out) (fun hHeld => ?_)
              clear hK K
              try simp only [Act.put, List.setIfInBounds_toArray, List.set_cons_zero, List.set_cons_succ]
              refine wpAnyR_step 4 rfl (by kernel_rfl) (fun K hK => ?_)
              go_simp
              go_at_call 30
              refine HSM.out.mono ?_
              rintro r wC ⟨rfl, hbC⟩
              have HC := Lib.hid (HC.out.trans (hbC.mono HC.out.size))
              clear hbC HSM
              go_wp2_with fail
              refine hK.out _ _ (HSS.out _ HC.out) (fun hHeld => ?_)
              clear hK K
              try simp only [Act.put, List.setIfInBounds_toArray, List.set_cons_zero, List.set_cons_succ]
              refine wpAnyR_take 5 rfl (by kernel_rfl) (by kernel_rfl) (by kernel_rfl) (by kernel_rfl) (fun _ _ _ h => h) (by rfl) (v := ?_) ?_ (by assumption) ?_
              rotate_left
              focus
                intro wS hSw
                (try dsimp only at hSw)
                go_simp
                (try simp only [hSw])
                try with_reducible rfl
              intro hHeld
              try simp only [Act.put, List.setIfInBounds_toArray, List.set_cons_zero, List.set_cons_succ]
              refine wpAnyR_take 6 rfl (by kernel_rfl) (by kernel_rfl) (by kernel_rfl) (by kernel_rfl) (fun _ _ _ h => h) (by rfl) (v := ?_) ?_ (by assumption) ?_
              rotate_left
              focus
                intro wS hSw
                (try dsimp only at hSw)
                go_simp
                (try simp only [hSw])
                try with_reducible rfl
              intro hHeld
              try simp only [Act.put, List.setIfInBounds_toArray, List.set_cons_zero, List.set_cons_succ]
              refine wpAnyR_take 7 rfl (by kernel_rfl) (by kernel_rfl) (by kernel_rfl) (by kernel_rfl) (fun _ _ _ h => h) (by rfl) (v := ?_) ?_ (by assumption) ?_
              rotate_left
              focus
                intro wS hSw
                (try dsimp only at hSw)
                go_simp
                (try simp only [hSw])
                try with_reducible rfl
              intro hHeld
              try simp only [Act.put, List.setIfInBounds_toArray, List.set_cons_zero, List.set_cons_succ]
              refine wpAnyR_take 9 rfl (by kernel_rfl) (by kernel_rfl) (by kernel_rfl) (by kernel_rfl) (fun _ _ _ h => h) (by rfl) (v := ?_) ?_ (by assumption) ?_
              rotate_left
              focus
                intro wS hSw
                (try dsimp only at hSw)
                go_simp
                (try simp only [hSw])
                try with_reducible rfl
              intro hHeld
              try simp only [Act.put, List.setIfInBounds_toArray, List.set_cons_zero, List.set_cons_succ]
              refine wpAnyR_take 10 rfl (by kernel_rfl) (by kernel_rfl) (by kernel_rfl) (by kernel_rfl) (fun _ _ _ h => h) (by rfl) (v := ?_) ?_ (by assumption) ?_
              rotate_left
              focus
                intro wS hSw
                (try dsimp only at hSw)
                go_simp
                (try simp only [hSw])
                try with_reducible rfl
              intro hHeld
              try simp only [Act.put, List.setIfInBounds_toArray, List.set_cons_zero, List.set_cons_succ]
              refine wpAnyR_step 8 rfl (by kernel_rfl) (fun K hK => ?_)
              go_simp
              go_at_call 18
              refine (HS1.out _ HC.out).mono ?_
              rintro r wA ⟨a0, a1, a2, a3, a4, rfl, hxA, hbA⟩
              have HXA := Lib.hid hxA
              have HC := Lib.hid (HC.out.trans (hbA.mono HC.out.size))
              clear hxA hbA
              go_wp2_with fail
              refine hK.out _ _ (HSS.out _ HC.out) (fun hHeld => ?_)
              clear hK K
              try simp only [Act.put, List.setIfInBounds_toArray, List.set_cons_zero, List.set_cons_succ]
              refine wpAnyR_step 11 rfl (by kernel_rfl) (fun K hK => ?_)
              go_simp
              go_at_call 32
              refine (HS2.out _ HC.out).mono ?_
              rintro r wB ⟨b0, b1, b2, b3, b4, rfl, hxB, hbB⟩
              have HSM := Lib.hid (same_yes _ wB (ObR.keep (fun g hg => hbB.block g hg.2) (fun g hg => Nat.lt_of_lt_of_le hg.2 hbB.size) _ HXA.out) (ObR.keep (fun _ _ => rfl) (fun g hg => hg.2) _ hxB))
              have HC := Lib.hid (HC.out.trans (hbB.mono HC.out.size))
              clear hxB hbB HXA
              go_wp2_with fail
              refine hK.out _ _ (HSS.out _ HC.out) (fun hHeld => ?_)
              clear hK K
              try simp only [Act.put, List.setIfInBounds_toArray, List.set_cons_zero, List.set_cons_succ]
              refine wpAnyR_step 12 rfl (by kernel_rfl) (fun K hK => ?_)
              go_simp
              go_at_call 30
              refine HSM.out.mono ?_
              rintro r wC ⟨rfl, hbC⟩
              have HC := Lib.hid (HC.out.trans (hbC.mono HC.out.size))
              clear hbC HSM
              go_wp2_with fail
              refine hK.out _ _ (HSS.out _ HC.out) (fun hHeld => ?_)
              clear hK K
              try simp only [Act.put, List.setIfInBounds_toArray, List.set_cons_zero, List.set_cons_succ]
              refine wpAnyR_take 13 rfl (by kernel_rfl) (by kernel_rfl) (by kernel_rfl) (by kernel_rfl) (fun _ _ _ h => h) (by rfl) (v := ?_) ?_ (by assumption) ?_
              rotate_left
              focus
                intro wS hSw
                (try dsimp only at hSw)
                go_simp
                (try simp only [hSw])
                try with_reducible rfl
              intro hHeld
              try simp only [Act.put, List.setIfInBounds_toArray, List.set_cons_zero, List.set_cons_succ]
              refine wpAnyR_take 14 rfl (by kernel_rfl) (by kernel_rfl) (by kernel_rfl) (by kernel_rfl) (fun _ _ _ h => h) (by rfl) (v := ?_) ?_ (by assumption) ?_
              rotate_left
              focus
                intro wS hSw
                (try dsimp only at hSw)
                go_simp
                (try simp only [hSw])
                try with_reducible rfl
              intro hHeld
              try simp only [Act.put, List.setIfInBounds_toArray, List.set_cons_zero, List.set_cons_succ]
              refine wpAnyR_take 15 rfl (by kernel_rfl) (by kernel_rfl) (by kernel_rfl) (by kernel_rfl) (fun _ _ _ h => h) (by rfl) (v := ?_) ?_ (by assumption) ?_
              rotate_left
              focus
                intro wS hSw
                (try dsimp only at hSw)
                go_simp
                (try simp only [hSw])
                try with_reducible rfl
              intro hHeld
              try simp only [Act.put, List.setIfInBounds_toArray, List.set_cons_zero, List.set_cons_succ]
              refine wpAnyR_take 17 rfl (by kernel_rfl) (by kernel_rfl) (by kernel_rfl) (by kernel_rfl) (fun _ _ _ h => h) (by rfl) (v := ?_) ?_ (by assumption) ?_
              rotate_left
              focus
                intro wS hSw
                (try dsimp only at hSw)
                go_simp
                (try simp only [hSw])
                try with_reducible rfl
              intro hHeld
              try simp only [Act.put, List.setIfInBounds_toArray, List.set_cons_zero, List.set_cons_succ]
              refine wpAnyR_step 16 rfl (by kernel_rfl) (fun K hK => ?_)
              go_simp
              go_at_call 10
              refine (HA1.out _ HC.out).mono ?_
              rintro r wA ⟨a0, a1, a2, a3, a4, rfl, hxA, hbA⟩
              have HXA := Lib.hid hxA
              have HC := Lib.hid (HC.out.trans (hbA.mono HC.out.size))
              clear hxA hbA
              go_wp2_with fail
              refine hK.out _ _ (HSS.out _ HC.out) (fun hHeld => ?_)
              clear hK K
              try simp only [Act.put, List.setIfInBounds_toArray, List.set_cons_zero, List.set_cons_succ]
              refine wpAnyR_step 18 rfl (by kernel_rfl) (fun K hK => ?_)
              go_simp
              go_at_call 33
              refine (HA2.out _ HC.out).mono ?_
              rintro r wB ⟨b0, b1, b2, b3, b4, rfl, hxB, hbB⟩
              have HSM := Lib.hid (same_yes _ wB (ObR.keep (fun g hg => hbB.block g hg.2) (fun g hg => Nat.lt_of_lt_of_le hg.2 hbB.size) _ HXA.out) (ObR.keep (fun _ _ => rfl) (fun g hg => hg.2) _ hxB))
              have HC := Lib.hid (HC.out.trans (hbB.mono HC.out.size))
              clear hxB hbB HXA
              go_wp2_with fail
              refine hK.out _ _ (HSS.out _ HC.out) (fun hHeld => ?_)
              clear hK K
              try simp only [Act.put, List.setIfInBounds_toArray, List.set_cons_zero, List.set_cons_succ]
              refine wpAnyR_step 19 rfl (by kernel_rfl) (fun K hK => ?_)
              go_simp
              go_at_call 30
              refine HSM.out.mono ?_
              rintro r wC ⟨rfl, hbC⟩
              have HC := Lib.hid (HC.out.trans (hbC.mono HC.out.size))
              clear hbC HSM
              go_wp2_with fail
              refine hK.out _ _ (HSS.out _ HC.out) (fun hHeld => ?_)
              clear hK K
              try simp only [Act.put, List.setIfInBounds_toArray, List.set_cons_zero, List.set_cons_succ]
              refine wpAnyR_take 20 rfl (by kernel_rfl) (by kernel_rfl) (by kernel_rfl) (by kernel_rfl) (fun _ _ _ h => h) (by rfl) (v := ?_) ?_ (by assumption) ?_
              rotate_left
              focus
                intro wS hSw
                (try dsimp only at hSw)
                go_simp
                (try simp only [hSw])
                try with_reducible rfl
              intro hHeld
              try simp only [Act.put, List.setIfInBounds_toArray, List.set_cons_zero, List.set_cons_succ]
              refine wpAnyR_take 21 rfl (by kernel_rfl) (by kernel_rfl) (by kernel_rfl) (by kernel_rfl) (fun _ _ _ h => h) (by rfl) (v := ?_) ?_ (by assumption) ?_
              rotate_left
              focus
                intro wS hSw
                (try dsimp only at hSw)
                go_simp
                (try simp only [hSw])
                try with_reducible rfl
              intro hHeld
              try simp only [Act.put, List.setIfInBounds_toArray, List.set_cons_zero, List.set_cons_succ]
              refine wpAnyR_take 22 rfl (by kernel_rfl) (by kernel_rfl) (by kernel_rfl) (by kernel_rfl) (fun _ _ _ h => h) (by rfl) (v := ?_) ?_ (by assumption) ?_
              rotate_left
              focus
                intro wS hSw
                (try dsimp only at hSw)
                go_simp
                (try simp only [hSw])
                try with_reducible rfl
              intro hHeld
              try simp only [Act.put, List.setIfInBounds_toArray, List.set_cons_zero, List.set_cons_succ]
              refine wpAnyR_take 24 rfl (by kernel_rfl) (by kernel_rfl) (by kernel_rfl) (by kernel_rfl) (fun _ _ _ h => h) (by rfl) (v := ?_) ?_ (by assumption) ?_
              rotate_left
              focus
                intro wS hSw
                (try dsimp only at hSw)
                go_simp
                (try simp only [hSw])
                try with_reducible rfl
              intro hHeld
              try simp only [Act.put, List.setIfInBounds_toArray, List.set_cons_zero, List.set_cons_succ]
              refine wpAnyR_step 23 rfl (by kernel_rfl) (fun K hK => ?_)
              go_simp
              go_at_call 25
              refine (HT1.out _ HC.out).mono ?_
              rintro r wA ⟨a0, a1, a2, a3, a4, rfl, hxA, hbA⟩
              have HXA := Lib.hid hxA
              have HC := Lib.hid (HC.out.trans (hbA.mono HC.out.size))
              clear hxA hbA
              go_wp2_with fail
              refine hK.out _ _ (HSS.out _ HC.out) (fun hHeld => ?_)
              clear hK K
              try simp only [Act.put, List.setIfInBounds_toArray, List.set_cons_zero, List.set_cons_succ]
              refine wpAnyR_step 25 rfl (by kernel_rfl) (fun K hK => ?_)
              go_simp
              go_at_call 34
              refine (HT2.out _ HC.out).mono ?_
              rintro r wB ⟨b0, b1, b2, b3, b4, rfl, hxB, hbB⟩
              have HSM := Lib.hid (same_yes _ wB (ObR.keep (fun g hg => hbB.block g hg.2) (fun g hg => Nat.lt_of_lt_of_le hg.2 hbB.size) _ HXA.out) (ObR.keep (fun _ _ => rfl) (fun g hg => hg.2) _ hxB))
              have HC := Lib.hid (HC.out.trans (hbB.mono HC.out.size))
              clear hxB hbB HXA
              go_wp2_with fail
              refine hK.out _ _ (HSS.out _ HC.out) (fun hHeld => ?_)
              clear hK K
              try simp only [Act.put, List.setIfInBounds_toArray, List.set_cons_zero, List.set_cons_succ]
              refine wpAnyR_step 26 rfl (by kernel_rfl) (fun K hK => ?_)
              go_simp
              go_at_call 30
              refine HSM.out.mono ?_
              rintro r wC ⟨rfl, hbC⟩
              have HC := Lib.hid (HC.out.trans (hbC.mono HC.out.size))
              clear hbC HSM
              go_wp2_with fail
              refine hK.out _ _ (HSS.out _ HC.out) (fun hHeld => ?_)
              clear hK K
              try simp only [Act.put, List.setIfInBounds_toArray, List.set_cons_zero, List.set_cons_succ]
              refine wpAnyR_take 27 rfl (by kernel_rfl) (by kernel_rfl) (by kernel_rfl) (by kernel_rfl) (fun _ _ _ h => h) (by rfl) (v := ?_) ?_ (by assumption) ?_
              rotate_left
              focus
                intro wS hSw
                (try dsimp only at hSw)
                go_simp
                (try simp only [hSw])
                try with_reducible rfl
              intro hHeld
              try simp only [Act.put, List.setIfInBounds_toArray, List.set_cons_zero, List.set_cons_succ]
              refine wpAnyR_take 28 rfl (by kernel_rfl) (by kernel_rfl) (by kernel_rfl) (by kernel_rfl) (fun _ _ _ h => h) (by rfl) (v := ?_) ?_ (by assumption) ?_
              rotate_left
              focus
                intro wS hSw
                (try dsimp only at hSw)
                go_simp
                (try simp only [hSw])
                try with_reducible rfl
              intro hHeld
              try simp only [Act.put, List.setIfInBounds_toArray, List.set_cons_zero, List.set_cons_succ]
              refine wpAnyR_take 29 rfl (by kernel_rfl) (by kernel_rfl) (by kernel_rfl) (by kernel_rfl) (fun _ _ _ h => h) (by rfl) (v := ?_) ?_ (by assumption) ?_
              rotate_left
              focus
                intro wS hSw
                (try dsimp only at hSw)
                go_simp
                (try simp only [hSw])
                try with_reducible rfl
              intro hHeld
              try simp only [Act.put, List.setIfInBounds_toArray, List.set_cons_zero, List.set_cons_succ]
              refine wpAnyR_take 32 rfl (by kernel_rfl) (by kernel_rfl) (by kernel_rfl) (by kernel_rfl) (fun _ _ _ h => h) (by rfl) (v := ?_) ?_ (by assumption) ?_
              rotate_left
              focus
                intro wS hSw
                (try dsimp only at hSw)
                go_simp
                (try simp only [hSw])
                try with_reducible rfl
              intro hHeld
              try simp only [Act.put, List.setIfInBounds_toArray, List.set_cons_zero, List.set_cons_succ]
              refine wpAnyR_take 30 rfl (by kernel_rfl) (by kernel_rfl) (by kernel_rfl) (by kernel_rfl) (fun _ _ _ h => h) (by rfl) (v := ?_) ?_ (by assumption) ?_
              rotate_left
              focus
                intro wS hSw
                (try dsimp only at hSw)
                go_simp
                (try simp only [hSw])
                try with_reducible rfl
              intro hHeld
              try simp only [Act.put, List.setIfInBounds_toArray, List.set_cons_zero, List.set_cons_succ]
              refine wpAnyR_take 33 rfl (by kernel_rfl) (by kernel_rfl) (by kernel_rfl) (by kernel_rfl) (fun _ _ _ h => h) (by rfl) (v := ?_) ?_ (by assumption) ?_
              rotate_left
              focus
                intro wS hSw
                (try dsimp only at hSw)
                go_simp
                (try simp only [hSw])
                try with_reducible rfl
              intro hHeld
              try simp only [Act.put, List.setIfInBounds_toArray, List.set_cons_zero, List.set_cons_succ]
              refine wpAnyR_step 31 rfl (by kernel_rfl) (fun K hK => ?_)
              go_simp
              go_at_call 19
              refine (HN1.out _ HC.out).mono ?_
              rintro r wA ⟨a0, a1, a2, a3, a4, rfl, hxA, hbA⟩
              have HXA := Lib.hid hxA
              have HC := Lib.hid (HC.out.trans (hbA.mono HC.out.size))
              clear hxA hbA
              go_wp2_with fail
              refine hK.out _ _ (HSS.out _ HC.out) (fun hHeld => ?_)
              clear hK K
              try simp only [Act.put, List.setIfInBounds_toArray, List.set_cons_zero, List.set_cons_succ]
              refine wpAnyR_step 34 rfl (by kernel_rfl) (fun K hK => ?_)
              go_simp
              go_at_call 35
              refine (HNN.out _ HC.out).mono ?_
              rintro r wB ⟨b0, b1, b2, b3, b4, rfl, hxB, hbB⟩
              have HSM := Lib.hid (same_yes _ wB (ObR.keep (fun g hg => hbB.block g hg.2) (fun g hg => Nat.lt_of_lt_of_le hg.2 hbB.size) _ HXA.out) (ObR.keep (fun _ _ => rfl) (fun g hg => hg.2) _ hxB))
              have HC := Lib.hid (HC.out.trans (hbB.mono HC.out.size))
              clear hxB hbB HXA
              go_wp2_with fail
              refine hK.out _ _ (HSS.out _ HC.out) (fun hHeld => ?_)
              clear hK K
              try simp only [Act.put, List.setIfInBounds_toArray, List.set_cons_zero, List.set_cons_succ]
              refine wpAnyR_step 35 rfl (by kernel_rfl) (fun K hK => ?_)
              go_simp
              go_at_call 30
              refine HSM.out.mono ?_
              rintro r wC ⟨rfl, hbC⟩
              have HC := Lib.hid (HC.out.trans (hbC.mono HC.out.size))
              clear hbC HSM
              go_wp2_with fail
              refine hK.out _ _ (HSS.out _ HC.out) (fun hHeld => ?_)
              clear hK K
              try simp only [Act.put, List.setIfInBounds_toArray, List.set_cons_zero, List.set_cons_succ]
              refine wpAnyR_take 36 rfl (by kernel_rfl) (by kernel_rfl) (by kernel_rfl) (by kernel_rfl) (fun _ _ _ h => h) (by rfl) (v := ?_) ?_ (by assumption) ?_
              rotate_left
              focus
                intro wS hSw
                (try dsimp only at hSw)
                go_simp
                (try simp only [hSw])
                try with_reducible rfl
              intro hHeld
              try simp only [Act.put, List.setIfInBounds_toArray, List.set_cons_zero, List.set_cons_succ]
              refine wpAnyR_take 37 rfl (by kernel_rfl) (by kernel_rfl) (by kernel_rfl) (by kernel_rfl) (fun _ _ _ h => h) (by rfl) (v := ?_) ?_ (by assumption) ?_
              rotate_left
              focus
                intro wS hSw
                (try dsimp only at hSw)
                go_simp
                (try simp only [hSw])
                try with_reducible rfl
              intro hHeld
              try simp only [Act.put, List.setIfInBounds_toArray, List.set_cons_zero, List.set_cons_succ]
              refine wpAnyR_done (by kernel_rfl) ?_
              refine NoPanic.normal ?_
              go_wp2_with fail
              go_ret
              exact ⟨rfl, HBZ.out.trans (HC.out.mono HBZ.out.size)⟩
set_option maxRecDepth 100000 in
theorem makes_lifted (os : Os) (started : os.Started) (H : Type) (enc : TypeId × Value → H) :
    ReturnsInHanded {} Try.checked os 5 .any (Rows.cosMakesSpec.pre6 enc Try.prog Try.f5 Rows.cosMakesRow.domain false) (Rows.cosMakesSpec.post enc Try.prog Try.f5 false true false false) := by
  refine returnsInHanded_of_change (C := Try.checked) own started (by kernel_rfl) Try.func5
    (ChangeSpec.witness6 (enc := enc) (C := Try.checked) false ⟨#[], #[.slice none 0 0, .slice none 0 0], []⟩ 8 (by kernel_rfl) (by kernel_rfl) (by kernel_rfl) (by kernel_rfl)) ?_
  intro W base args ds gs before hval0 hW hcnd _
  have hval : ∀ (j : Nat) t v, Try.f5.params[j]? = some t → args[j]? = some v → Value.okWide Try.prog W .any base t v := hval0
  have hW' := hW
  obtain ⟨p, q, hA0, hV, rfl, hfz, hnd⟩ := hW
  have hA : DataW.TrodAll enc Try.prog W 0 (fun _ => true) true Try.f5.params.toList args.toList ds p := hA0
  rw [Try.params5] at hA hval
  obtain ⟨v0, vs0, d0, ds0, p0, q0, hargs, rfl, rfl, h0, r0⟩ := trodAll_cons hA
  obtain ⟨v1, vs1, d1, ds1, p1, q1, rfl, rfl, rfl, h1, r1⟩ := trodAll_cons r0
  obtain ⟨rfl, rfl, rfl⟩ := trodAll_nil r1
  obtain rfl : args = #[v0, v1] := by cases args; simp_all
  obtain ⟨rfl, rfl⟩ := trodVars_none hV
  obtain ⟨a0, len0, cap0, rfl⟩ := okWide_slice Try.underlying25 (hval 0 25 v0 rfl rfl)
  have h0' := h0
  obtain ⟨m0, hm0⟩ := h0'
  obtain ⟨l0, A0, c0, e0, hl0⟩ := open_ens (c := .slice a0 len0 cap0) (fun _ => rfl) hm0
  injection e0 with e1 e2 e3
  subst e1 e2 e3
  have lt0 : ∀ x ∈ p0, x.block < W.heap.size := by obtain ⟨m, hm⟩ := h0; exact DataW.trod_lt m _ _ _ hm
  obtain ⟨a1, len1, cap1, rfl⟩ := okWide_slice Try.underlying23 (hval 1 23 v1 rfl rfl)
  obtain ⟨zs1, hz1, hcm1⟩ := open_bytes h1 (fun _ => rfl)
  have lt1 : ∀ x ∈ p1, x.block < W.heap.size := by obtain ⟨m, hm⟩ := h1; exact DataW.trod_lt m _ _ _ hm
  have hmx : maxLen = 9223372036854775807 := by decide
  clear hA0 hval0
  refine (makes_walk l0 a0 cap0 a1 len1 cap1 zs1 W hl0 hz1 (by omega)).mono fun e W' ⟨he, bel⟩ => ?_
  subst he
  exact ⟨_, rfl, _, _, _, [], _, [], hW', trodAll_mk1 (shut_bool Try.underlying4 _), (trodAll_cons_mk (Below.trod laidOut (by kernel_rfl) (of_decide_eq_true (by kernel_rfl)) h0 bel lt0) (trodAll_cons_mk (Below.trod laidOut (by kernel_rfl) (of_decide_eq_true (by kernel_rfl)) h1 bel lt1) trodAll_mk0)), rfl, bel.frame _, fun h => by cases h⟩

/-- CosMakes: it answers true. -/
theorem makes_holds : Rows.CosMakesSaid :=
  OpenClaim.holds_of_wide 5 Try.f5 rfl rfl rfl rfl rfl rfl rfl ⟨rfl, rfl, rfl, rfl, rfl⟩ rfl rfl rfl rfl rfl (by kernel_rfl) Try.func5 (by kernel_rfl)
    (of_decide_eq_true (by kernel_rfl)) (by unfold Func.isWrapper; first | (rw [if_pos (by decide +kernel)]; kernel_rfl) | (rw [if_neg (by decide +kernel)]; exact ⟨rfl, rfl⟩))
    (fun os started H enc _ => makes_lifted os started H enc)
#print axioms makes_holds

end Go.Proofs.Ytkloipjkialakaa
