/- CosKnown: chapter 10's example: what is made is what it is, may be or may not be. A closed statement: no input. -/
import Derived.Test.YtdkmomdioiipjaaCkn24
import Derived.Test.YtdkmomdioiipjaaCkn26
namespace Go.Proofs.Ytdkmomdioiipjaa
open Go.ChangeShapes Go.WideShapes Go.ChangeAt Go.RowKit Go.Deep
set_option linter.unusedVariables false
set_option maxRecDepth 100000
abbrev oR3 : Ob := .mk 9 3 [] .nil .nil
abbrev oR1 : Ob := .mk 9 1 [] .nil .nil
abbrev sK : ByteArray := ⟨#[75]⟩
abbrev dK : Ens := .cons sK oR1 .nil
abbrev oDK : Ob := .mk 7 0 [] .nil dK
abbrev lK : Obs := .cons oR3 (.cons oDK (.cons oR3 .nil))
abbrev oK : Ob := .mk 6 0 [] lK .nil
theorem dictK : dictF dK .nil = dK := by simp [dictF, withE, Ob.kind]
theorem wdR (n : Int) (W : Nat) : wdO W (.mk 9 n [] .nil .nil) := by simp [wdO, wdL, wdE, Obs.len, Ens.len]
theorem wdDK : wdO 4 oDK := by simp [wdO, wdL, wdE, Obs.len, Ens.len]
theorem wdK : wdO 4 oK := by simp [wdO, wdL, wdE, Obs.len, Ens.len]
theorem htK : htO oK = 3 := by simp [htO, htL, htE]
theorem okK : okO oK := by simp [okO, okL, okE, Obs.len, Ens.len]
theorem mayK : mayO oK 28 = true := by decide +kernel
theorem depK : depthO oK = 2 := by decide +kernel
theorem refK : refsO oK = [3, 1, 3] := by decide +kernel
theorem lit3_14 {W : World} {g : Nat} (h : W.heap[g]? = some (.cells #[.int .i64 3, .int .i64 1, .int .i64 3] 3 (0, 0))) (i : Nat) (z : Int) (hz : ([3, 1, 3] : List Int)[i]? = some z) : W.cell? ⟨g, 0 + i, none⟩ = some (.int .i64 z) := by
  rw [cell_of_row _ _ (0 + i) _ _ (0, 0) h, Nat.zero_add]
  match i with
  | 0 => simp at hz; subst hz; rfl
  | 1 => simp at hz; subst hz; rfl
  | 2 => simp at hz; subst hz; rfl
  | i + 3 => simp at hz
abbrev oST : Ob := .mk 8 0 [] .nil .nil
abbrev oAS : Ob := .mk 6 0 [] (.cons oST .nil) .nil
abbrev sN : ByteArray := ⟨#[97, 0]⟩
abbrev oRL : Ob := .mk 3 1 [] .nil .nil
theorem mayR0 : mayO (.mk 9 0 [] .nil .nil) 28 = false := by decide +kernel
theorem mayAS : mayO oAS 28 = false := by decide +kernel
theorem okN : okO (.mk 5 0 (strZ sN) .nil .nil) := by
  have h : (strZ sN).length = 2 := by rw [strZ_len]; rfl
  simp [okO, okL, okE, Obs.len, Ens.len, h]
theorem mayN : mayO (.mk 5 0 (strZ sN) .nil .nil) 28 = false := by decide +kernel
theorem mayB : mayO (.mk 1 1 [] .nil .nil) 28 = true := by decide +kernel
theorem mayI1 : mayO int1 28 = true := by decide +kernel
theorem mayRL : mayO oRL 28 = true := by decide +kernel
theorem sameIR : sameO int1 oRL = false := by decide +kernel
theorem ensV_nil14 (W : World) (S : Nat → Prop) : EnsV W S .nil none 0 := ⟨by simp [Ens.len], fun h => absurd h (by simp [Ens.len])⟩
set_option maxHeartbeats 16000000 in
theorem cknown_walk (w : World) : Calls Try.prog 3 #[] w fun e w' => e = .returned (.bool true) ∧ Below w.heap.size w w' := by
  have HAW := Lib.hid (awake_any10 w)
  go_enter Try.func3, Try.ntmps3
  go_upto_region 3 with (go_at_call 8; (with_reducible refine HAW.out.mono ?_); (rintro r w0 ⟨rfl, hb0⟩); have HB0 := Lib.hid hb0; clear hb0)
  go_wp2_with fail
  refine (pRefC 3 _ (by omega)).mono ?_
  rintro r w1 ⟨a0, a1, a2, a3, a4, rfl, hx1, hb1⟩
  go_wp2_with fail
  refine (pRefC 1 _ (by omega)).mono ?_
  rintro r w2 ⟨b0, b1, b2, b3, b4, rfl, hx2, hb2⟩
  go_wp2_with fail
  refine (pPairC 1 sK oR1 (fun g => w1.heap.size ≤ g ∧ g < w2.heap.size) w2 _ _ _ _ _ hx2 (fun g hg => hg.2) (wdR 1 1) (by simp [htO, htL, htE])).mono ?_
  rintro r w3 ⟨c0, c1, c2, c3, c4, rfl, hx3, hb3⟩
  obtain ⟨kC, nC, AC2, mC2, cC2, AC3, mC3, cC3, AC4, mC4, cC4, rfl, rfl, rfl, rfl, rfl⟩ := hx3.form
  have hn4 := heap_alloc_new w3 (.cells #[.string sK, .int .i64 kC, .int .i64 nC, .slice AC2 mC2 cC2, .slice AC3 mC3 cC3, .slice AC4 mC4 cC4] 32)
  have hb4 := (Below.refl w3.heap.size w3).alloc (Nat.le_refl _) (.cells #[.string sK, .int .i64 kC, .int .i64 nC, .slice AC2 mC2 cC2, .slice AC3 mC3 cC3, .slice AC4 mC4 cC4] 32)
  have hs4 : (w3.alloc (.cells #[.string sK, .int .i64 kC, .int .i64 nC, .slice AC2 mC2 cC2, .slice AC3 mC3 cC3, .slice AC4 mC4 cC4] 32)).heap.size = w3.heap.size + 1 := by simp
  obtain ⟨w4, hW4⟩ : ∃ w4, w3.alloc (.cells #[.string sK, .int .i64 kC, .int .i64 nC, .slice AC2 mC2 cC2, .slice AC3 mC3 cC3, .slice AC4 mC4 cC4] 32) = w4 := ⟨_, rfl⟩
  rw [hW4] at hn4 hb4 hs4
  have he4 : EnsV w4 (oldT w4) dK (some ⟨w3.heap.size, 0, none⟩) 1 := ⟨by simp [Ens.len], fun _ => ⟨w3.heap.size, 0, rfl, show w3.heap.size < w4.heap.size by omega, by
    unfold EnsR
    refine ⟨⟨_, _, _, _, _, cell_of_row _ _ 0 _ _ (0, 0) hn4, cell_of_row _ _ 1 _ _ (0, 0) hn4, cell_of_row _ _ 2 _ _ (0, 0) hn4, cell_of_row _ _ 3 _ _ (0, 0) hn4, cell_of_row _ _ 4 _ _ (0, 0) hn4, cell_of_row _ _ 5 _ _ (0, 0) hn4, ?_⟩, by unfold EnsR; trivial⟩
    exact ObR.keep (fun g hg => hb4.block g hg.2) (fun g hg => show g < w4.heap.size by have := hg.2; omega) _ hx3⟩⟩
  have hd4 : Calls Try.prog 11 #[.slice (some ⟨w3.heap.size, 0, none⟩) 1 1] w4 (CpP w4 oDK) := by
    have h := pDictC 4 dK (oldT w4) w4 (some ⟨w3.heap.size, 0, none⟩) 1 he4 (fun g hg => hg) (by intro p hp; simp [Ens.toL] at hp; subst hp; simp [Ob.kind]) (by simp [wdE, wdO, wdL, Obs.len, Ens.len]) (by simp [Ens.len]) (by simp [htE, htO, htL]) (by omega)
    rw [dictK] at h
    exact h
  have HD4 := Lib.hid hd4
  clear hd4 he4
  go_wp2_with fail
  refine HD4.out.mono ?_
  rintro r w5 ⟨d0, d1, d2, d3, d4, rfl, hx5, hb5⟩
  go_wp2_with fail
  refine (pRefC 3 _ (by omega)).mono ?_
  rintro r w6 ⟨e0, e1, e2, e3, e4, rfl, hx6, hb6⟩
  have s1 := hb1.size
  have s2 := hb2.size
  have s3 := hb3.size
  have s5 := hb5.size
  have s6 := hb6.size
  have b16 : Below w1.heap.size w1 w6 := hb2.trans ((hb3.trans ((hb4.trans ((hb5.trans (hb6.mono s5)).mono (by omega))).mono s3)).mono s2)
  have y1 : ObR w6 (oldT w6) oR3 a0 a1 a2 a3 a4 := ObR.keep (fun g hg => b16.block g hg.2) (fun g hg => show g < w6.heap.size by have := hg.2; have := b16.size; omega) _ hx1
  have y5 : ObR w6 (oldT w6) oDK d0 d1 d2 d3 d4 := ObR.keep (fun g hg => hb6.block g hg.2) (fun g hg => show g < w6.heap.size by have := hg.2; omega) _ hx5
  have y6 : ObR w6 (oldT w6) oR3 e0 e1 e2 e3 e4 := ObR.keep (fun _ _ => rfl) (fun g hg => hg.2) _ hx6
  have HB6 : Hid (Below w.heap.size w w6) := Lib.hid (HB0.out.trans ((hb1.trans (b16.mono s1)).mono HB0.out.size))
  obtain ⟨kA, nA, AA2, mA2, cA2, AA3, mA3, cA3, AA4, mA4, cA4, rfl, rfl, rfl, rfl, rfl⟩ := y1.form
  obtain ⟨kD, nD, AD2, mD2, cD2, AD3, mD3, cD3, AD4, mD4, cD4, rfl, rfl, rfl, rfl, rfl⟩ := y5.form
  obtain ⟨kE, nE, AE2, mE2, cE2, AE3, mE3, cE3, AE4, mE4, cE4, rfl, rfl, rfl, rfl, rfl⟩ := y6.form
  clear hx1 hb1 hx2 hb2 hx3 hb3 hn4 hb4 hs4 hW4 hx5 hb5 hx6 hb6 s1 s2 s3 s5 s6 b16
  have hn7 := heap_alloc_new w6 (.cells #[.int .i64 kA, .int .i64 nA, .slice AA2 mA2 cA2, .slice AA3 mA3 cA3, .slice AA4 mA4 cA4, .int .i64 kD, .int .i64 nD, .slice AD2 mD2 cD2, .slice AD3 mD3 cD3, .slice AD4 mD4 cD4, .int .i64 kE, .int .i64 nE, .slice AE2 mE2 cE2, .slice AE3 mE3 cE3, .slice AE4 mE4 cE4] 27)
  have hb7 := (Below.refl w6.heap.size w6).alloc (Nat.le_refl _) (.cells #[.int .i64 kA, .int .i64 nA, .slice AA2 mA2 cA2, .slice AA3 mA3 cA3, .slice AA4 mA4 cA4, .int .i64 kD, .int .i64 nD, .slice AD2 mD2 cD2, .slice AD3 mD3 cD3, .slice AD4 mD4 cD4, .int .i64 kE, .int .i64 nE, .slice AE2 mE2 cE2, .slice AE3 mE3 cE3, .slice AE4 mE4 cE4] 27)
  have hs7 : (w6.alloc (.cells #[.int .i64 kA, .int .i64 nA, .slice AA2 mA2 cA2, .slice AA3 mA3 cA3, .slice AA4 mA4 cA4, .int .i64 kD, .int .i64 nD, .slice AD2 mD2 cD2, .slice AD3 mD3 cD3, .slice AD4 mD4 cD4, .int .i64 kE, .int .i64 nE, .slice AE2 mE2 cE2, .slice AE3 mE3 cE3, .slice AE4 mE4 cE4] 27)).heap.size = w6.heap.size + 1 := by simp
  obtain ⟨w7, hW7⟩ : ∃ w7, w6.alloc (.cells #[.int .i64 kA, .int .i64 nA, .slice AA2 mA2 cA2, .slice AA3 mA3 cA3, .slice AA4 mA4 cA4, .int .i64 kD, .int .i64 nD, .slice AD2 mD2 cD2, .slice AD3 mD3 cD3, .slice AD4 mD4 cD4, .int .i64 kE, .int .i64 nE, .slice AE2 mE2 cE2, .slice AE3 mE3 cE3, .slice AE4 mE4 cE4] 27) = w7 := ⟨_, rfl⟩
  rw [hW7] at hn7 hb7 hs7
  have hkp : ∀ (x : Ob) {v0 v1 v2 v3 v4 : Value}, ObR w6 (oldT w6) x v0 v1 v2 v3 v4 → ObR w7 (oldT w7) x v0 v1 v2 v3 v4 := fun x {v0 v1 v2 v3 v4} h => ObR.keep (fun g hg => hb7.block g hg) (fun g hg => show g < w7.heap.size by have : g < w6.heap.size := hg; omega) x h
  have ho7 : ObsV w7 (oldT w7) lK (some ⟨w6.heap.size, 0, none⟩) 3 := ⟨by simp [Obs.len], fun _ => ⟨w6.heap.size, 0, rfl, show w6.heap.size < w7.heap.size by omega, by
    unfold ObsR
    refine ⟨⟨_, _, _, _, _, cell_of_row _ _ 0 _ _ (0, 0) hn7, cell_of_row _ _ 1 _ _ (0, 0) hn7, cell_of_row _ _ 2 _ _ (0, 0) hn7, cell_of_row _ _ 3 _ _ (0, 0) hn7, cell_of_row _ _ 4 _ _ (0, 0) hn7, hkp _ y1⟩, ?_⟩
    unfold ObsR
    refine ⟨⟨_, _, _, _, _, cell_of_row _ _ 5 _ _ (0, 0) hn7, cell_of_row _ _ 6 _ _ (0, 0) hn7, cell_of_row _ _ 7 _ _ (0, 0) hn7, cell_of_row _ _ 8 _ _ (0, 0) hn7, cell_of_row _ _ 9 _ _ (0, 0) hn7, hkp _ y5⟩, ?_⟩
    unfold ObsR
    refine ⟨⟨_, _, _, _, _, cell_of_row _ _ 10 _ _ (0, 0) hn7, cell_of_row _ _ 11 _ _ (0, 0) hn7, cell_of_row _ _ 12 _ _ (0, 0) hn7, cell_of_row _ _ 13 _ _ (0, 0) hn7, cell_of_row _ _ 14 _ _ (0, 0) hn7, hkp _ y6⟩, ?_⟩
    unfold ObsR
    trivial⟩⟩
  have ha7 : Calls Try.prog 9 #[.slice (some ⟨w6.heap.size, 0, none⟩) 3 3] w7 (CpP w7 oK) := pArrC 4 lK (oldT w7) w7 (some ⟨w6.heap.size, 0, none⟩) 3 ho7 (fun g hg => hg) (by simp [wdE, wdO, wdL, Obs.len, Ens.len]) (by simp [Obs.len]) (by simp [htE, htO, htL])
  have HA7 := Lib.hid ha7
  have HB7 := Lib.hid (HB6.out.trans (hb7.mono HB6.out.size))
  clear ha7 ho7 hkp y1 y5 y6 hn7 hb7 hs7
  go_wp2_with fail
  refine HA7.out.mono ?_
  rintro r w8 ⟨f0, f1, f2, f3, f4, rfl, hx8, hb8⟩
  obtain ⟨kF, nF, AF2, mF2, cF2, AF3, mF3, cF3, AF4, mF4, cF4, rfl, rfl, rfl, rfl, rfl⟩ := hx8.form
  go_upto_region 4 with fail
  have hn9 := heap_alloc_new w8 (.cells #[.int .i64 kF, .int .i64 nF, .slice AF2 mF2 cF2, .slice AF3 mF3 cF3, .slice AF4 mF4 cF4] 27)
  have hb9 := (Below.refl w8.heap.size w8).alloc (Nat.le_refl _) (.cells #[.int .i64 kF, .int .i64 nF, .slice AF2 mF2 cF2, .slice AF3 mF3 cF3, .slice AF4 mF4 cF4] 27)
  have hs9 : (w8.alloc (.cells #[.int .i64 kF, .int .i64 nF, .slice AF2 mF2 cF2, .slice AF3 mF3 cF3, .slice AF4 mF4 cF4] 27)).heap.size = w8.heap.size + 1 := by simp
  obtain ⟨w9, hW9⟩ : ∃ w9, w8.alloc (.cells #[.int .i64 kF, .int .i64 nF, .slice AF2 mF2 cF2, .slice AF3 mF3 cF3, .slice AF4 mF4 cF4] 27) = w9 := ⟨_, rfl⟩
  rw [hW9] at hn9 hb9 hs9 ⊢
  have HEL : Hid (∀ W, Below w9.heap.size w9 W → W.cell? ⟨w8.heap.size, 0, none⟩ = some (.int .i64 kF) ∧ W.cell? ⟨w8.heap.size, 1, none⟩ = some (.int .i64 nF) ∧ W.cell? ⟨w8.heap.size, 2, none⟩ = some (.slice AF2 mF2 cF2) ∧ W.cell? ⟨w8.heap.size, 3, none⟩ = some (.slice AF3 mF3 cF3) ∧ W.cell? ⟨w8.heap.size, 4, none⟩ = some (.slice AF4 mF4 cF4)) := Lib.hid (fun W hW => by
    have e1 := (hW.block w8.heap.size (by omega)).trans hn9
    exact ⟨cell_of_row _ _ 0 _ _ (0, 0) e1, cell_of_row _ _ 1 _ _ (0, 0) e1, cell_of_row _ _ 2 _ _ (0, 0) e1, cell_of_row _ _ 3 _ _ (0, 0) e1, cell_of_row _ _ 4 _ _ (0, 0) e1⟩)
  have HXK : Hid (∀ W, Below w9.heap.size w9 W → ObR W (fun g => g < w9.heap.size) oK (.int .i64 kF) (.int .i64 nF) (.slice AF2 mF2 cF2) (.slice AF3 mF3 cF3) (.slice AF4 mF4 cF4)) := Lib.hid (fun W hW => ObR.keep (fun g hg => (hW.block g (by have := hg.2; omega)).trans (hb9.block g hg.2)) (fun g hg => by have := hg.2; omega) _ hx8)
  have HRT : Hid (∀ W, Below w9.heap.size w9 W → Below w.heap.size w W) := Lib.hid (fun W hW => HB7.out.trans ((hb8.trans ((hb9.trans (hW.mono (by omega))).mono hb8.size)).mono HB7.out.size))
  have HRF : Hid (∀ W, Below w9.heap.size w9 W → Calls Try.prog 14 #[.agg #[.int .i64 kF, .int .i64 nF, .slice AF2 mF2 cF2, .slice AF3 mF3 cF3, .slice AF4 mF4 cF4]] W fun r w' => (∃ v, r = .returned v ∧ OwnV w' W.heap.size 3 v ([3, 1, 3].map (fun z => Value.int .i64 z))) ∧ Below W.heap.size W w') := Lib.hid (fun W hW => by
    have h := pRefsC oK (fun g => g < w9.heap.size) W _ _ _ _ _ (HXK.out W hW) (fun g hg => Nat.lt_of_lt_of_le hg hW.size) okK (by rw [htK]; omega) (by rw [refK]; simp)
    rw [refK] at h
    exact h)
  have HMY : Hid (∀ W, Below w9.heap.size w9 W → Calls Try.prog 15 #[.agg #[.int .i64 kF, .int .i64 nF, .slice AF2 mF2 cF2, .slice AF3 mF3 cF3, .slice AF4 mF4 cF4]] W fun r w' => r = .returned (.bool true) ∧ Below W.heap.size W w') := Lib.hid (fun W hW => by
    have h := pMayC oK (fun g => g < w9.heap.size) W _ _ _ _ _ (HXK.out W hW) (fun g hg => Nat.lt_of_lt_of_le hg hW.size) okK (by rw [htK]; omega)
    rw [mayK] at h
    exact h)
  have HDP : Hid (∀ W, Below w9.heap.size w9 W → Calls Try.prog 16 #[.agg #[.int .i64 kF, .int .i64 nF, .slice AF2 mF2 cF2, .slice AF3 mF3 cF3, .slice AF4 mF4 cF4]] W fun r w' => r = .returned (.int .i64 2) ∧ Below W.heap.size W w') := Lib.hid (fun W hW => by
    have h := pDepthC oK (fun g => g < w9.heap.size) W _ _ _ _ _ (HXK.out W hW) (fun g hg => Nat.lt_of_lt_of_le hg hW.size) okK (by rw [htK]; omega)
    rw [depK] at h
    exact h)
  have HCP : Hid (∀ W, Below w9.heap.size w9 W → Calls Try.prog 21 #[.agg #[.int .i64 kF, .int .i64 nF, .slice AF2 mF2 cF2, .slice AF3 mF3 cF3, .slice AF4 mF4 cF4]] W (CpP W oK)) := Lib.hid (fun W hW => pCopyC _ 4 oK wdK (by rw [htK]; exact Nat.le_refl _) (by omega) (fun g => g < w9.heap.size) W _ _ _ _ _ (HXK.out W hW) (fun g hg => Nat.lt_of_lt_of_le hg hW.size))
  have HSM : Hid (∀ (W : World) (v0 v1 v2 v3 v4 : Value), Below w9.heap.size w9 W → ObR W (fun g => g < W.heap.size) oK v0 v1 v2 v3 v4 → Calls Try.prog 20 #[.agg #[.int .i64 kF, .int .i64 nF, .slice AF2 mF2 cF2, .slice AF3 mF3 cF3, .slice AF4 mF4 cF4], .agg #[v0, v1, v2, v3, v4]] W fun r w' => r = .returned (.bool true) ∧ Below W.heap.size W w') := Lib.hid (fun W v0 v1 v2 v3 v4 hW hv => by
    have h := pSameC 100000000 4 (by omega) oK oK (may_fit _ _ mayK) (may_fit _ _ mayK) wdK (by rw [htK]; omega) (Nat.le_refl _) (fun g => g < W.heap.size) W _ _ _ _ _ _ _ _ _ _ (ObR.keep (fun _ _ => rfl) (fun g hg => Nat.lt_of_lt_of_le hg hW.size) _ (HXK.out W hW)) hv (fun g hg => hg)
    rw [sameO_self] at h
    exact h)
  have HC : Hid (Below w9.heap.size w9 w9.drew) := Lib.hid (Below.refl _ _).drew
  have hfd : ∀ (v0 v1 v2 v3 v4 : Value) (Wx : World), (Instr.field 27 (.agg #[v0, v1, v2, v3, v4]) 0).run Try.prog Wx = .ok v0 Wx := fun _ _ _ _ _ _ => by kernel_rfl
  clear hx8 hb8 hn9 hb9 hs9 hW7 hW9 HXK HA7 HB7 HB6 HD4 HAW HB0
  refine wp_region_heldR (fun W => W.cell? ⟨w8.heap.size, 0, none⟩ = some (.int .i64 kF) ∧ W.cell? ⟨w8.heap.size, 1, none⟩ = some (.int .i64 nF) ∧ W.cell? ⟨w8.heap.size, 2, none⟩ = some (.slice AF2 mF2 cF2) ∧ W.cell? ⟨w8.heap.size, 3, none⟩ = some (.slice AF3 mF3 cF3) ∧ W.cell? ⟨w8.heap.size, 4, none⟩ = some (.slice AF4 mF4 cF4)) 1000 (by kernel_rfl) (HEL.out _ HC.out) (fun hHeld => ?_)
  refine wpAnyR_take 0 rfl (by kernel_rfl) (by kernel_rfl) (by kernel_rfl) (by kernel_rfl) (fun _ _ _ h => h) (by rfl) (v := ?_) ?_ (by assumption) ?_
  rotate_left
  focus
    intro wS hSw
    (try dsimp only at hSw)
    go_simp
    (try simp only [hSw])
    (try simp only [hfd, Result.andThen])
    try with_reducible rfl
  intro hHeld
  try simp only [Act.put, List.setIfInBounds_toArray, List.set_cons_zero, List.set_cons_succ]
  refine wpAnyR_two 1 2 rfl rfl (by kernel_rfl) (fun K hK => ?_) (fun K hK => ?_)
  focus
    go_simp
    go_at_call 14
    refine (HRF.out _ HC.out).mono ?_
    rintro r wA ⟨⟨v, rfl, hown⟩, hbA⟩
    have HC' := Lib.hid (HC.out.trans (hbA.mono HC.out.size))
    clear HC hbA
    have HC := HC'
    clear HC'
    obtain ⟨A, c, rfl, hI⟩ := hown.ints (w' := wA)
    have HIA := Lib.hid hI
    clear hI hown
    go_wp2_with fail
    refine hK.out _ _ (HEL.out _ HC.out) (fun hHeld => ?_)
    clear hK K
    try simp only [Act.put, List.setIfInBounds_toArray, List.set_cons_zero, List.set_cons_succ]
    refine wpAnyR_step 2 rfl (by kernel_rfl) (fun K hK => ?_)
    go_simp
    have hnB := heap_alloc_new wA (.cells #[.int .i64 3, .int .i64 1, .int .i64 3] 3)
    have hbB := (Below.refl wA.heap.size wA).alloc (Nat.le_refl _) (.cells #[.int .i64 3, .int .i64 1, .int .i64 3] 3)
    have hzB : (wA.alloc (.cells #[.int .i64 3, .int .i64 1, .int .i64 3] 3)).heap.size = wA.heap.size + 1 := by simp
    obtain ⟨wB, hWB⟩ : ∃ wB, wA.alloc (.cells #[.int .i64 3, .int .i64 1, .int .i64 3] 3) = wB := ⟨_, rfl⟩
    rw [hWB] at hnB hbB hzB ⊢
    have HI : Hid (∀ W, Below wB.heap.size wB W → IntV W A [3, 1, 3] ∧ IntV W (some ⟨wA.heap.size, 0, none⟩) [3, 1, 3]) := Lib.hid (fun W hW => ⟨HIA.out W (hbB.trans (hW.mono (by omega))), fun _ => ⟨wA.heap.size, 0, rfl, by have := hW.size; omega, fun i z hz => lit3_14 ((hW.block wA.heap.size (by omega)).trans hnB) i z hz⟩⟩)
    have HC' := Lib.hid (HC.out.trans (hbB.mono HC.out.size))
    clear HC hnB hzB hbB HIA
    have HC := HC'
    clear HC'
    obtain ⟨bl, hbl⟩ : ∃ bl, wA.heap.size = bl := ⟨_, rfl⟩
    rw [hbl] at HI ⊢
    refine hK.out _ _ (HEL.out _ HC.out) (fun hHeld => ?_)
    clear hK K
    try simp only [Act.put, List.setIfInBounds_toArray, List.set_cons_zero, List.set_cons_succ]
    clear hWB hbl
  rotate_left
  focus
    go_simp
    have hnB : (w9.alloc (.cells #[.int .i64 3, .int .i64 1, .int .i64 3] 3)).drew.heap[w9.heap.size]? = some (.cells #[.int .i64 3, .int .i64 1, .int .i64 3] 3 (0, 0)) := heap_alloc_new w9 _
    have hbB := ((Below.refl w9.heap.size w9).alloc (Nat.le_refl _) (.cells #[.int .i64 3, .int .i64 1, .int .i64 3] 3)).drew
    have hzB : (w9.alloc (.cells #[.int .i64 3, .int .i64 1, .int .i64 3] 3)).drew.heap.size = w9.heap.size + 1 := by simp
    obtain ⟨wA, hWB⟩ : ∃ wA, (w9.alloc (.cells #[.int .i64 3, .int .i64 1, .int .i64 3] 3)).drew = wA := ⟨_, rfl⟩
    rw [hWB] at hnB hbB hzB ⊢
    have HIB : Hid (∀ W, Below wA.heap.size wA W → IntV W (some ⟨w9.heap.size, 0, none⟩) [3, 1, 3]) := Lib.hid (fun W hW _ => ⟨w9.heap.size, 0, rfl, by have := hW.size; omega, fun i z hz => lit3_14 ((hW.block w9.heap.size (by omega)).trans hnB) i z hz⟩)
    clear HC
    have HC := Lib.hid hbB
    clear hnB hzB hbB
    refine hK.out _ _ (HEL.out _ HC.out) (fun hHeld => ?_)
    clear hK K
    try simp only [Act.put, List.setIfInBounds_toArray, List.set_cons_zero, List.set_cons_succ]
    clear hWB
    refine wpAnyR_step 1 rfl (by kernel_rfl) (fun K hK => ?_)
    go_simp
    go_at_call 14
    refine (HRF.out _ HC.out).mono ?_
    rintro r wB ⟨⟨v, rfl, hown⟩, hbB⟩
    have HC' := Lib.hid (HC.out.trans (hbB.mono HC.out.size))
    clear HC
    have HC := HC'
    clear HC'
    obtain ⟨A, c, rfl, hI⟩ := hown.ints (w' := wB)
    have HI : Hid (∀ W, Below wB.heap.size wB W → IntV W A [3, 1, 3] ∧ IntV W (some ⟨w9.heap.size, 0, none⟩) [3, 1, 3]) := Lib.hid (fun W hW => ⟨hI W hW, HIB.out W (hbB.trans (hW.mono hbB.size))⟩)
    clear hI hown hbB HIB
    go_wp2_with fail
    refine hK.out _ _ (HEL.out _ HC.out) (fun hHeld => ?_)
    clear hK K
    try simp only [Act.put, List.setIfInBounds_toArray, List.set_cons_zero, List.set_cons_succ]
  all_goals
    refine wpAnyR_step 3 rfl (by kernel_rfl) (fun K hK => ?_)
    go_simp
    go_at_call 13
    refine (intsC [3, 1, 3] _ _ _ _ wB (HI.out wB (Below.refl _ _)).1 (HI.out wB (Below.refl _ _)).2 (by simp)).mono ?_
    rintro r wX ⟨rfl, hbX⟩
    have HC' := Lib.hid (HC.out.trans (hbX.mono HC.out.size))
    clear HC
    have HC := HC'
    clear HC'
    clear hbX HI
    go_wp2_with fail
    refine hK.out _ _ (HEL.out _ HC.out) (fun hHeld => ?_)
    clear hK K
    try simp only [Act.put, List.setIfInBounds_toArray, List.set_cons_zero, List.set_cons_succ]
    refine wpAnyR_take 4 rfl (by kernel_rfl) (by kernel_rfl) (by kernel_rfl) (by kernel_rfl) (fun _ _ _ h => h) (by rfl) (v := ?_) ?_ (by assumption) ?_
    rotate_left
    focus
      intro wS hSw
      (try dsimp only at hSw)
      go_simp
      (try simp only [hSw])
      (try simp only [hfd, Result.andThen])
      try with_reducible rfl
    intro hHeld
    try simp only [Act.put, List.setIfInBounds_toArray, List.set_cons_zero, List.set_cons_succ]
    refine wpAnyR_take 5 rfl (by kernel_rfl) (by kernel_rfl) (by kernel_rfl) (by kernel_rfl) (fun _ _ _ h => h) (by rfl) (v := ?_) ?_ (by assumption) ?_
    rotate_left
    focus
      intro wS hSw
      (try dsimp only at hSw)
      go_simp
      (try simp only [hSw])
      (try simp only [hfd, Result.andThen])
      try with_reducible rfl
    intro hHeld
    try simp only [Act.put, List.setIfInBounds_toArray, List.set_cons_zero, List.set_cons_succ]
    refine wpAnyR_step 6 rfl (by kernel_rfl) (fun K hK => ?_)
    go_simp
    go_at_call 15
    refine (HMY.out _ HC.out).mono ?_
    rintro r wX ⟨rfl, hbX⟩
    have HC' := Lib.hid (HC.out.trans (hbX.mono HC.out.size))
    clear HC
    have HC := HC'
    clear HC'
    clear hbX
    go_wp2_with fail
    refine hK.out _ _ (HEL.out _ HC.out) (fun hHeld => ?_)
    clear hK K
    try simp only [Act.put, List.setIfInBounds_toArray, List.set_cons_zero, List.set_cons_succ]
    refine wpAnyR_take 7 rfl (by kernel_rfl) (by kernel_rfl) (by kernel_rfl) (by kernel_rfl) (fun _ _ _ h => h) (by rfl) (v := ?_) ?_ (by assumption) ?_
    rotate_left
    focus
      intro wS hSw
      (try dsimp only at hSw)
      go_simp
      (try simp only [hSw])
      (try simp only [hfd, Result.andThen])
      try with_reducible rfl
    intro hHeld
    try simp only [Act.put, List.setIfInBounds_toArray, List.set_cons_zero, List.set_cons_succ]
    refine wpAnyR_take 8 rfl (by kernel_rfl) (by kernel_rfl) (by kernel_rfl) (by kernel_rfl) (fun _ _ _ h => h) (by rfl) (v := ?_) ?_ (by assumption) ?_
    rotate_left
    focus
      intro wS hSw
      (try dsimp only at hSw)
      go_simp
      (try simp only [hSw])
      (try simp only [hfd, Result.andThen])
      try with_reducible rfl
    intro hHeld
    try simp only [Act.put, List.setIfInBounds_toArray, List.set_cons_zero, List.set_cons_succ]
    refine wpAnyR_take 9 rfl (by kernel_rfl) (by kernel_rfl) (by kernel_rfl) (by kernel_rfl) (fun _ _ _ h => h) (by rfl) (v := ?_) ?_ (by assumption) ?_
    rotate_left
    focus
      intro wS hSw
      (try dsimp only at hSw)
      go_simp
      (try simp only [hSw])
      (try simp only [hfd, Result.andThen])
      try with_reducible rfl
    intro hHeld
    try simp only [Act.put, List.setIfInBounds_toArray, List.set_cons_zero, List.set_cons_succ]
    refine wpAnyR_step 10 rfl (by kernel_rfl) (fun K hK => ?_)
    go_simp
    go_at_call 16
    refine (HDP.out _ HC.out).mono ?_
    rintro r wX ⟨rfl, hbX⟩
    have HC' := Lib.hid (HC.out.trans (hbX.mono HC.out.size))
    clear HC
    have HC := HC'
    clear HC'
    clear hbX
    go_wp2_with fail
    refine hK.out _ _ (HEL.out _ HC.out) (fun hHeld => ?_)
    clear hK K
    try simp only [Act.put, List.setIfInBounds_toArray, List.set_cons_zero, List.set_cons_succ]
    refine wpAnyR_take 11 rfl (by kernel_rfl) (by kernel_rfl) (by kernel_rfl) (by kernel_rfl) (fun _ _ _ h => h) (by rfl) (v := ?_) ?_ (by assumption) ?_
    rotate_left
    focus
      intro wS hSw
      (try dsimp only at hSw)
      go_simp
      (try simp only [hSw])
      (try simp only [hfd, Result.andThen])
      try with_reducible rfl
    intro hHeld
    try simp only [Act.put, List.setIfInBounds_toArray, List.set_cons_zero, List.set_cons_succ]
    refine wpAnyR_take 12 rfl (by kernel_rfl) (by kernel_rfl) (by kernel_rfl) (by kernel_rfl) (fun _ _ _ h => h) (by rfl) (v := ?_) ?_ (by assumption) ?_
    rotate_left
    focus
      intro wS hSw
      (try dsimp only at hSw)
      go_simp
      (try simp only [hSw])
      (try simp only [hfd, Result.andThen])
      try with_reducible rfl
    intro hHeld
    try simp only [Act.put, List.setIfInBounds_toArray, List.set_cons_zero, List.set_cons_succ]
    refine wpAnyR_take 13 rfl (by kernel_rfl) (by kernel_rfl) (by kernel_rfl) (by kernel_rfl) (fun _ _ _ h => h) (by rfl) (v := ?_) ?_ (by assumption) ?_
    rotate_left
    focus
      intro wS hSw
      (try dsimp only at hSw)
      go_simp
      (try simp only [hSw])
      (try simp only [hfd, Result.andThen])
      try with_reducible rfl
    intro hHeld
    try simp only [Act.put, List.setIfInBounds_toArray, List.set_cons_zero, List.set_cons_succ]
    refine wpAnyR_step 14 rfl (by kernel_rfl) (fun K hK => ?_)
    go_simp
    go_at_call 10
    refine (pRefC 0 _ (by omega)).mono ?_
    rintro r wG ⟨rG0, rG1, rG2, rG3, rG4, rfl, hxG, hbX⟩
    have HC' := Lib.hid (HC.out.trans (hbX.mono HC.out.size))
    clear HC
    have HC := HC'
    clear HC'
    clear hbX
    obtain ⟨kG, nG, AG2, mG2, cG2, AG3, mG3, cG3, AG4, mG4, cG4, rfl, rfl, rfl, rfl, rfl⟩ := hxG.form
    go_wp2_with fail
    refine hK.out _ _ (HEL.out _ HC.out) (fun hHeld => ?_)
    clear hK K
    try simp only [Act.put, List.setIfInBounds_toArray, List.set_cons_zero, List.set_cons_succ]
    refine wpAnyR_step 15 rfl (by kernel_rfl) (fun K hK => ?_)
    go_simp
    go_at_call 15
    refine (pMayC _ _ wG _ _ _ _ _ hxG (fun g hg => hg.2) (by simp [okO, okL, okE, Obs.len, Ens.len]) (by simp [htO, htL, htE])).mono ?_
    rintro r wX ⟨rfl, hbX⟩
    rw [mayR0]
    have HC' := Lib.hid (HC.out.trans (hbX.mono HC.out.size))
    clear HC
    have HC := HC'
    clear HC'
    clear hbX
    go_wp2_with fail
    refine hK.out _ _ (HEL.out _ HC.out) (fun hHeld => ?_)
    clear hK K
    try simp only [Act.put, List.setIfInBounds_toArray, List.set_cons_zero, List.set_cons_succ]
    refine wpAnyR_take 16 rfl (by kernel_rfl) (by kernel_rfl) (by kernel_rfl) (by kernel_rfl) (fun _ _ _ h => h) (by rfl) (v := ?_) ?_ (by assumption) ?_
    rotate_left
    focus
      intro wS hSw
      (try dsimp only at hSw)
      go_simp
      (try simp only [hSw])
      (try simp only [hfd, Result.andThen])
      try with_reducible rfl
    intro hHeld
    try simp only [Act.put, List.setIfInBounds_toArray, List.set_cons_zero, List.set_cons_succ]
    refine wpAnyR_take 17 rfl (by kernel_rfl) (by kernel_rfl) (by kernel_rfl) (by kernel_rfl) (fun _ _ _ h => h) (by rfl) (v := ?_) ?_ (by assumption) ?_
    rotate_left
    focus
      intro wS hSw
      (try dsimp only at hSw)
      go_simp
      (try simp only [hSw])
      (try simp only [hfd, Result.andThen])
      try with_reducible rfl
    intro hHeld
    try simp only [Act.put, List.setIfInBounds_toArray, List.set_cons_zero, List.set_cons_succ]
    refine wpAnyR_take 18 rfl (by kernel_rfl) (by kernel_rfl) (by kernel_rfl) (by kernel_rfl) (fun _ _ _ h => h) (by rfl) (v := ?_) ?_ (by assumption) ?_
    rotate_left
    focus
      intro wS hSw
      (try dsimp only at hSw)
      go_simp
      (try simp only [hSw])
      (try simp only [hfd, Result.andThen])
      try with_reducible rfl
    intro hHeld
    try simp only [Act.put, List.setIfInBounds_toArray, List.set_cons_zero, List.set_cons_succ]
    refine wpAnyR_step 19 rfl (by kernel_rfl) (fun K hK => ?_)
    go_simp
    go_at_call 17
    refine (pStreamC 1 none 0 [] .nil (fun _ => False) _ none 0 (bytS_nil _ _) (by simp) (ensV_nil14 _ _) (fun g hg => hg.elim) (by simp [Ens.toL]) (by simp [wdE]) (by simp [Ens.len]) (by simp [htE]) (by omega)).mono ?_
    rintro r wH ⟨rH0, rH1, rH2, rH3, rH4, rfl, hxH, hbX⟩
    have HC' := Lib.hid (HC.out.trans (hbX.mono HC.out.size))
    clear HC
    have HC := HC'
    clear HC'
    clear hbX
    obtain ⟨kH, nH, AH2, mH2, cH2, AH3, mH3, cH3, AH4, mH4, cH4, rfl, rfl, rfl, rfl, rfl⟩ := hxH.form
    go_wp2_with fail
    refine hK.out _ _ (HEL.out _ HC.out) (fun hHeld => ?_)
    clear hK K
    try simp only [Act.put, List.setIfInBounds_toArray, List.set_cons_zero, List.set_cons_succ]
    refine wpAnyR_step 20 rfl (by kernel_rfl) (fun K hK => ?_)
    go_simp
    have hnS := heap_alloc_new wH (.cells #[.int .i64 kH, .int .i64 nH, .slice AH2 mH2 cH2, .slice AH3 mH3 cH3, .slice AH4 mH4 cH4] 27)
    have hbS := (Below.refl wH.heap.size wH).alloc (Nat.le_refl _) (.cells #[.int .i64 kH, .int .i64 nH, .slice AH2 mH2 cH2, .slice AH3 mH3 cH3, .slice AH4 mH4 cH4] 27)
    have hzS : (wH.alloc (.cells #[.int .i64 kH, .int .i64 nH, .slice AH2 mH2 cH2, .slice AH3 mH3 cH3, .slice AH4 mH4 cH4] 27)).heap.size = wH.heap.size + 1 := by simp
    obtain ⟨wS, hWS⟩ : ∃ wS, wH.alloc (.cells #[.int .i64 kH, .int .i64 nH, .slice AH2 mH2 cH2, .slice AH3 mH3 cH3, .slice AH4 mH4 cH4] 27) = wS := ⟨_, rfl⟩
    rw [hWS] at hnS hbS hzS ⊢
    have hoS : ObsV wS (oldT wS) (.cons oST .nil) (some ⟨wH.heap.size, 0, none⟩) 1 := ⟨by simp [Obs.len], fun _ => ⟨wH.heap.size, 0, rfl, show wH.heap.size < wS.heap.size by omega, by
      unfold ObsR
      refine ⟨⟨_, _, _, _, _, cell_of_row _ _ 0 _ _ (0, 0) hnS, cell_of_row _ _ 1 _ _ (0, 0) hnS, cell_of_row _ _ 2 _ _ (0, 0) hnS, cell_of_row _ _ 3 _ _ (0, 0) hnS, cell_of_row _ _ 4 _ _ (0, 0) hnS, ObR.keep (fun g hg => hbS.block g hg.2) (fun g hg => show g < wS.heap.size by have := hg.2; omega) _ hxH⟩, by unfold ObsR; trivial⟩⟩⟩
    have haS : Calls Try.prog 9 #[.slice (some ⟨wH.heap.size, 0, none⟩) 1 1] wS (CpP wS oAS) := pArrC 1 (.cons oST .nil) (oldT wS) wS (some ⟨wH.heap.size, 0, none⟩) 1 hoS (fun g hg => hg) (by simp [wdE, wdO, wdL, Obs.len, Ens.len]) (by simp [Obs.len]) (by simp [htE, htO, htL])
    have HAS := Lib.hid haS
    have HC' := Lib.hid (HC.out.trans (hbS.mono HC.out.size))
    clear HC
    have HC := HC'
    clear HC'
    clear hoS haS hnS hzS hbS hxH hWS
    refine hK.out _ _ (HEL.out _ HC.out) (fun hHeld => ?_)
    clear hK K
    try simp only [Act.put, List.setIfInBounds_toArray, List.set_cons_zero, List.set_cons_succ]
    refine wpAnyR_step 21 rfl (by kernel_rfl) (fun K hK => ?_)
    go_simp
    go_at_call 9
    refine (HAS.out).mono ?_
    rintro r wI ⟨rI0, rI1, rI2, rI3, rI4, rfl, hxI, hbX⟩
    have HC' := Lib.hid (HC.out.trans (hbX.mono HC.out.size))
    clear HC
    have HC := HC'
    clear HC'
    clear hbX
    obtain ⟨kI, nI, AI2, mI2, cI2, AI3, mI3, cI3, AI4, mI4, cI4, rfl, rfl, rfl, rfl, rfl⟩ := hxI.form
    go_wp2_with fail
    refine hK.out _ _ (HEL.out _ HC.out) (fun hHeld => ?_)
    clear hK K
    try simp only [Act.put, List.setIfInBounds_toArray, List.set_cons_zero, List.set_cons_succ]
    refine wpAnyR_step 22 rfl (by kernel_rfl) (fun K hK => ?_)
    go_simp
    go_at_call 15
    refine (pMayC _ _ wI _ _ _ _ _ hxI (fun g hg => hg.2) (by simp [okO, okL, okE, Obs.len, Ens.len]) (by simp [htO, htL, htE])).mono ?_
    rintro r wX ⟨rfl, hbX⟩
    rw [mayAS]
    have HC' := Lib.hid (HC.out.trans (hbX.mono HC.out.size))
    clear HC
    have HC := HC'
    clear HC'
    clear hbX
    go_wp2_with fail
    refine hK.out _ _ (HEL.out _ HC.out) (fun hHeld => ?_)
    clear hK K
    try simp only [Act.put, List.setIfInBounds_toArray, List.set_cons_zero, List.set_cons_succ]
    refine wpAnyR_take 23 rfl (by kernel_rfl) (by kernel_rfl) (by kernel_rfl) (by kernel_rfl) (fun _ _ _ h => h) (by rfl) (v := ?_) ?_ (by assumption) ?_
    rotate_left
    focus
      intro wS hSw
      (try dsimp only at hSw)
      go_simp
      (try simp only [hSw])
      (try simp only [hfd, Result.andThen])
      try with_reducible rfl
    intro hHeld
    try simp only [Act.put, List.setIfInBounds_toArray, List.set_cons_zero, List.set_cons_succ]
    refine wpAnyR_take 24 rfl (by kernel_rfl) (by kernel_rfl) (by kernel_rfl) (by kernel_rfl) (fun _ _ _ h => h) (by rfl) (v := ?_) ?_ (by assumption) ?_
    rotate_left
    focus
      intro wS hSw
      (try dsimp only at hSw)
      go_simp
      (try simp only [hSw])
      (try simp only [hfd, Result.andThen])
      try with_reducible rfl
    intro hHeld
    try simp only [Act.put, List.setIfInBounds_toArray, List.set_cons_zero, List.set_cons_succ]
    refine wpAnyR_take 25 rfl (by kernel_rfl) (by kernel_rfl) (by kernel_rfl) (by kernel_rfl) (fun _ _ _ h => h) (by rfl) (v := ?_) ?_ (by assumption) ?_
    rotate_left
    focus
      intro wS hSw
      (try dsimp only at hSw)
      go_simp
      (try simp only [hSw])
      (try simp only [hfd, Result.andThen])
      try with_reducible rfl
    intro hHeld
    try simp only [Act.put, List.setIfInBounds_toArray, List.set_cons_zero, List.set_cons_succ]
    refine wpAnyR_step 26 rfl (by kernel_rfl) (fun K hK => ?_)
    go_simp
    go_at_call 18
    refine (pNameC sN _ (by decide)).mono ?_
    rintro r wJ ⟨rJ0, rJ1, rJ2, rJ3, rJ4, rfl, hxJ, hbX⟩
    have HC' := Lib.hid (HC.out.trans (hbX.mono HC.out.size))
    clear HC
    have HC := HC'
    clear HC'
    clear hbX
    obtain ⟨kJ, nJ, AJ2, mJ2, cJ2, AJ3, mJ3, cJ3, AJ4, mJ4, cJ4, rfl, rfl, rfl, rfl, rfl⟩ := hxJ.form
    go_wp2_with fail
    refine hK.out _ _ (HEL.out _ HC.out) (fun hHeld => ?_)
    clear hK K
    try simp only [Act.put, List.setIfInBounds_toArray, List.set_cons_zero, List.set_cons_succ]
    refine wpAnyR_step 27 rfl (by kernel_rfl) (fun K hK => ?_)
    go_simp
    go_at_call 15
    refine (pMayC _ _ wJ _ _ _ _ _ hxJ (fun g hg => hg.2) okN (by simp [htO, htL, htE])).mono ?_
    rintro r wX ⟨rfl, hbX⟩
    rw [mayN]
    have HC' := Lib.hid (HC.out.trans (hbX.mono HC.out.size))
    clear HC
    have HC := HC'
    clear HC'
    clear hbX
    go_wp2_with fail
    refine hK.out _ _ (HEL.out _ HC.out) (fun hHeld => ?_)
    clear hK K
    try simp only [Act.put, List.setIfInBounds_toArray, List.set_cons_zero, List.set_cons_succ]
    refine wpAnyR_take 28 rfl (by kernel_rfl) (by kernel_rfl) (by kernel_rfl) (by kernel_rfl) (fun _ _ _ h => h) (by rfl) (v := ?_) ?_ (by assumption) ?_
    rotate_left
    focus
      intro wS hSw
      (try dsimp only at hSw)
      go_simp
      (try simp only [hSw])
      (try simp only [hfd, Result.andThen])
      try with_reducible rfl
    intro hHeld
    try simp only [Act.put, List.setIfInBounds_toArray, List.set_cons_zero, List.set_cons_succ]
    refine wpAnyR_take 29 rfl (by kernel_rfl) (by kernel_rfl) (by kernel_rfl) (by kernel_rfl) (fun _ _ _ h => h) (by rfl) (v := ?_) ?_ (by assumption) ?_
    rotate_left
    focus
      intro wS hSw
      (try dsimp only at hSw)
      go_simp
      (try simp only [hSw])
      (try simp only [hfd, Result.andThen])
      try with_reducible rfl
    intro hHeld
    try simp only [Act.put, List.setIfInBounds_toArray, List.set_cons_zero, List.set_cons_succ]
    refine wpAnyR_take 30 rfl (by kernel_rfl) (by kernel_rfl) (by kernel_rfl) (by kernel_rfl) (fun _ _ _ h => h) (by rfl) (v := ?_) ?_ (by assumption) ?_
    rotate_left
    focus
      intro wS hSw
      (try dsimp only at hSw)
      go_simp
      (try simp only [hSw])
      (try simp only [hfd, Result.andThen])
      try with_reducible rfl
    intro hHeld
    try simp only [Act.put, List.setIfInBounds_toArray, List.set_cons_zero, List.set_cons_succ]
    refine wpAnyR_step 31 rfl (by kernel_rfl) (fun K hK => ?_)
    go_simp
    go_at_call 19
    refine (pBoolC _).mono ?_
    rintro r wM ⟨rM0, rM1, rM2, rM3, rM4, rfl, hxM, hbX⟩
    have HC' := Lib.hid (HC.out.trans (hbX.mono HC.out.size))
    clear HC
    have HC := HC'
    clear HC'
    clear hbX
    obtain ⟨kM, nM, AM2, mM2, cM2, AM3, mM3, cM3, AM4, mM4, cM4, rfl, rfl, rfl, rfl, rfl⟩ := hxM.form
    go_wp2_with fail
    refine hK.out _ _ (HEL.out _ HC.out) (fun hHeld => ?_)
    clear hK K
    try simp only [Act.put, List.setIfInBounds_toArray, List.set_cons_zero, List.set_cons_succ]
    refine wpAnyR_step 32 rfl (by kernel_rfl) (fun K hK => ?_)
    go_simp
    go_at_call 15
    refine (pMayC _ _ wM _ _ _ _ _ hxM (fun g hg => hg.2) (by simp [okO, okL, okE, Obs.len, Ens.len]) (by simp [htO, htL, htE])).mono ?_
    rintro r wX ⟨rfl, hbX⟩
    rw [mayB]
    have HC' := Lib.hid (HC.out.trans (hbX.mono HC.out.size))
    clear HC
    have HC := HC'
    clear HC'
    clear hbX
    go_wp2_with fail
    refine hK.out _ _ (HEL.out _ HC.out) (fun hHeld => ?_)
    clear hK K
    try simp only [Act.put, List.setIfInBounds_toArray, List.set_cons_zero, List.set_cons_succ]
    refine wpAnyR_take 33 rfl (by kernel_rfl) (by kernel_rfl) (by kernel_rfl) (by kernel_rfl) (fun _ _ _ h => h) (by rfl) (v := ?_) ?_ (by assumption) ?_
    rotate_left
    focus
      intro wS hSw
      (try dsimp only at hSw)
      go_simp
      (try simp only [hSw])
      (try simp only [hfd, Result.andThen])
      try with_reducible rfl
    intro hHeld
    try simp only [Act.put, List.setIfInBounds_toArray, List.set_cons_zero, List.set_cons_succ]
    refine wpAnyR_take 34 rfl (by kernel_rfl) (by kernel_rfl) (by kernel_rfl) (by kernel_rfl) (fun _ _ _ h => h) (by rfl) (v := ?_) ?_ (by assumption) ?_
    rotate_left
    focus
      intro wS hSw
      (try dsimp only at hSw)
      go_simp
      (try simp only [hSw])
      (try simp only [hfd, Result.andThen])
      try with_reducible rfl
    intro hHeld
    try simp only [Act.put, List.setIfInBounds_toArray, List.set_cons_zero, List.set_cons_succ]
    refine wpAnyR_take 35 rfl (by kernel_rfl) (by kernel_rfl) (by kernel_rfl) (by kernel_rfl) (fun _ _ _ h => h) (by rfl) (v := ?_) ?_ (by assumption) ?_
    rotate_left
    focus
      intro wS hSw
      (try dsimp only at hSw)
      go_simp
      (try simp only [hSw])
      (try simp only [hfd, Result.andThen])
      try with_reducible rfl
    intro hHeld
    try simp only [Act.put, List.setIfInBounds_toArray, List.set_cons_zero, List.set_cons_succ]
    refine wpAnyR_take 36 rfl (by kernel_rfl) (by kernel_rfl) (by kernel_rfl) (by kernel_rfl) (fun _ _ _ h => h) (by rfl) (v := ?_) ?_ (by assumption) ?_
    rotate_left
    focus
      intro wS hSw
      (try dsimp only at hSw)
      go_simp
      (try simp only [hSw])
      (try simp only [hfd, Result.andThen])
      try with_reducible rfl
    intro hHeld
    try simp only [Act.put, List.setIfInBounds_toArray, List.set_cons_zero, List.set_cons_succ]
    refine wpAnyR_step 37 rfl (by kernel_rfl) (fun K hK => ?_)
    go_simp
    go_at_call 21
    refine (HCP.out _ HC.out).mono ?_
    rintro r wN ⟨rN0, rN1, rN2, rN3, rN4, rfl, hxN, hbX⟩
    have HC' := Lib.hid (HC.out.trans (hbX.mono HC.out.size))
    clear HC
    have HC := HC'
    clear HC'
    clear hbX
    obtain ⟨kN, nN, AN2, mN2, cN2, AN3, mN3, cN3, AN4, mN4, cN4, rfl, rfl, rfl, rfl, rfl⟩ := hxN.form
    go_wp2_with fail
    refine hK.out _ _ (HEL.out _ HC.out) (fun hHeld => ?_)
    clear hK K
    try simp only [Act.put, List.setIfInBounds_toArray, List.set_cons_zero, List.set_cons_succ]
    refine wpAnyR_step 38 rfl (by kernel_rfl) (fun K hK => ?_)
    go_simp
    go_at_call 20
    refine (HSM.out _ _ _ _ _ _ HC.out (ObR.keep (fun _ _ => rfl) (fun g hg => hg.2) _ hxN)).mono ?_
    rintro r wX ⟨rfl, hbX⟩
    have HC' := Lib.hid (HC.out.trans (hbX.mono HC.out.size))
    clear HC
    have HC := HC'
    clear HC'
    clear hbX
    go_wp2_with fail
    refine hK.out _ _ (HEL.out _ HC.out) (fun hHeld => ?_)
    clear hK K
    try simp only [Act.put, List.setIfInBounds_toArray, List.set_cons_zero, List.set_cons_succ]
    refine wpAnyR_take 39 rfl (by kernel_rfl) (by kernel_rfl) (by kernel_rfl) (by kernel_rfl) (fun _ _ _ h => h) (by rfl) (v := ?_) ?_ (by assumption) ?_
    rotate_left
    focus
      intro wS hSw
      (try dsimp only at hSw)
      go_simp
      (try simp only [hSw])
      (try simp only [hfd, Result.andThen])
      try with_reducible rfl
    intro hHeld
    try simp only [Act.put, List.setIfInBounds_toArray, List.set_cons_zero, List.set_cons_succ]
    refine wpAnyR_take 40 rfl (by kernel_rfl) (by kernel_rfl) (by kernel_rfl) (by kernel_rfl) (fun _ _ _ h => h) (by rfl) (v := ?_) ?_ (by assumption) ?_
    rotate_left
    focus
      intro wS hSw
      (try dsimp only at hSw)
      go_simp
      (try simp only [hSw])
      (try simp only [hfd, Result.andThen])
      try with_reducible rfl
    intro hHeld
    try simp only [Act.put, List.setIfInBounds_toArray, List.set_cons_zero, List.set_cons_succ]
    refine wpAnyR_step 41 rfl (by kernel_rfl) (fun K hK => ?_)
    go_simp
    go_at_call 22
    refine (pIntC 1 _ (by omega)).mono ?_
    rintro r wO ⟨rO0, rO1, rO2, rO3, rO4, rfl, hxO, hbX⟩
    have HC' := Lib.hid (HC.out.trans (hbX.mono HC.out.size))
    clear HC
    have HC := HC'
    clear HC'
    clear hbX
    obtain ⟨kO, nO, AO2, mO2, cO2, AO3, mO3, cO3, AO4, mO4, cO4, rfl, rfl, rfl, rfl, rfl⟩ := hxO.form
    go_wp2_with fail
    refine hK.out _ _ (HEL.out _ HC.out) (fun hHeld => ?_)
    clear hK K
    try simp only [Act.put, List.setIfInBounds_toArray, List.set_cons_zero, List.set_cons_succ]
    refine wpAnyR_step 42 rfl (by kernel_rfl) (fun K hK => ?_)
    go_simp
    go_at_call 23
    refine (pRealC 1 _ (by omega)).mono ?_
    rintro r wP ⟨rP0, rP1, rP2, rP3, rP4, rfl, hxP, hbX⟩
    have HC' := Lib.hid (HC.out.trans (hbX.mono HC.out.size))
    clear HC
    have HC := HC'
    clear HC'
    have HOP := Lib.hid hbX
    clear hbX
    obtain ⟨kP, nP, AP2, mP2, cP2, AP3, mP3, cP3, AP4, mP4, cP4, rfl, rfl, rfl, rfl, rfl⟩ := hxP.form
    go_wp2_with fail
    refine hK.out _ _ (HEL.out _ HC.out) (fun hHeld => ?_)
    clear hK K
    try simp only [Act.put, List.setIfInBounds_toArray, List.set_cons_zero, List.set_cons_succ]
    refine wpAnyR_step 43 rfl (by kernel_rfl) (fun K hK => ?_)
    go_simp
    go_at_call 20
    refine (pSameC 100000000 1 (by omega) int1 oRL (may_fit _ _ mayI1) (may_fit _ _ mayRL) (by simp [wdO, wdL, wdE, Obs.len, Ens.len]) (by simp [htO, htL, htE]) (Nat.le_refl _) (fun g => g < wP.heap.size) wP _ _ _ _ _ _ _ _ _ _ (ObR.keep (fun g hg => HOP.out.block g hg.2) (fun g hg => Nat.lt_of_lt_of_le hg.2 HOP.out.size) _ hxO) (ObR.keep (fun _ _ => rfl) (fun g hg => hg.2) _ hxP) (fun g hg => hg)).mono ?_
    rintro r wX ⟨rfl, hbX⟩
    rw [sameIR]
    have HC' := Lib.hid (HC.out.trans (hbX.mono HC.out.size))
    clear HC
    have HC := HC'
    clear HC'
    clear hbX
    go_wp2_with fail
    refine hK.out _ _ (HEL.out _ HC.out) (fun hHeld => ?_)
    clear hK K
    try simp only [Act.put, List.setIfInBounds_toArray, List.set_cons_zero, List.set_cons_succ]
    refine wpAnyR_take 44 rfl (by kernel_rfl) (by kernel_rfl) (by kernel_rfl) (by kernel_rfl) (fun _ _ _ h => h) (by rfl) (v := ?_) ?_ (by assumption) ?_
    rotate_left
    focus
      intro wS hSw
      (try dsimp only at hSw)
      go_simp
      (try simp only [hSw])
      (try simp only [hfd, Result.andThen])
      try with_reducible rfl
    intro hHeld
    try simp only [Act.put, List.setIfInBounds_toArray, List.set_cons_zero, List.set_cons_succ]
    refine wpAnyR_take 45 rfl (by kernel_rfl) (by kernel_rfl) (by kernel_rfl) (by kernel_rfl) (fun _ _ _ h => h) (by rfl) (v := ?_) ?_ (by assumption) ?_
    rotate_left
    focus
      intro wS hSw
      (try dsimp only at hSw)
      go_simp
      (try simp only [hSw])
      (try simp only [hfd, Result.andThen])
      try with_reducible rfl
    intro hHeld
    try simp only [Act.put, List.setIfInBounds_toArray, List.set_cons_zero, List.set_cons_succ]
    refine wpAnyR_take 46 rfl (by kernel_rfl) (by kernel_rfl) (by kernel_rfl) (by kernel_rfl) (fun _ _ _ h => h) (by rfl) (v := ?_) ?_ (by assumption) ?_
    rotate_left
    focus
      intro wS hSw
      (try dsimp only at hSw)
      go_simp
      (try simp only [hSw])
      (try simp only [hfd, Result.andThen])
      try with_reducible rfl
    intro hHeld
    try simp only [Act.put, List.setIfInBounds_toArray, List.set_cons_zero, List.set_cons_succ]
    refine wpAnyR_step 47 rfl (by kernel_rfl) (fun K hK => ?_)
    go_simp
    go_at_call 23
    refine (pRealC 5 _ (by omega)).mono ?_
    rintro r wQ ⟨rQ0, rQ1, rQ2, rQ3, rQ4, rfl, hxQ, hbX⟩
    have HC' := Lib.hid (HC.out.trans (hbX.mono HC.out.size))
    clear HC
    have HC := HC'
    clear HC'
    clear hbX
    have e0 : rQ0 = .int .i64 3 := kind_c0 hxQ
    subst e0
    go_wp2_with fail
    refine hK.out _ _ (HEL.out _ HC.out) (fun hHeld => ?_)
    clear hK K
    try simp only [Act.put, List.setIfInBounds_toArray, List.set_cons_zero, List.set_cons_succ]
    refine wpAnyR_take 48 rfl (by kernel_rfl) (by kernel_rfl) (by kernel_rfl) (by kernel_rfl) (fun _ _ _ h => h) (by rfl) (v := ?_) ?_ (by assumption) ?_
    rotate_left
    focus
      intro wS hSw
      (try dsimp only at hSw)
      go_simp
      (try simp only [hSw])
      (try simp only [hfd, Result.andThen])
      try with_reducible rfl
    intro hHeld
    try simp only [Act.put, List.setIfInBounds_toArray, List.set_cons_zero, List.set_cons_succ]
    refine wpAnyR_take 49 rfl (by kernel_rfl) (by kernel_rfl) (by kernel_rfl) (by kernel_rfl) (fun _ _ _ h => h) (by rfl) (v := ?_) ?_ (by assumption) ?_
    rotate_left
    focus
      intro wS hSw
      (try dsimp only at hSw)
      go_simp
      (try simp only [hSw])
      (try simp only [hfd, Result.andThen])
      try with_reducible rfl
    intro hHeld
    try simp only [Act.put, List.setIfInBounds_toArray, List.set_cons_zero, List.set_cons_succ]
    refine wpAnyR_take 50 rfl (by kernel_rfl) (by kernel_rfl) (by kernel_rfl) (by kernel_rfl) (fun _ _ _ h => h) (by rfl) (v := ?_) ?_ (by assumption) ?_
    rotate_left
    focus
      intro wS hSw
      (try dsimp only at hSw)
      go_simp
      (try simp only [hSw])
      (try simp only [hfd, Result.andThen])
      try with_reducible rfl
    intro hHeld
    try simp only [Act.put, List.setIfInBounds_toArray, List.set_cons_zero, List.set_cons_succ]
    refine wpAnyR_take 51 rfl (by kernel_rfl) (by kernel_rfl) (by kernel_rfl) (by kernel_rfl) (fun _ _ _ h => h) (by rfl) (v := ?_) ?_ (by assumption) ?_
    rotate_left
    focus
      intro wS hSw
      (try dsimp only at hSw)
      go_simp
      (try simp only [hSw])
      (try simp only [hfd, Result.andThen])
      try with_reducible rfl
    intro hHeld
    try simp only [Act.put, List.setIfInBounds_toArray, List.set_cons_zero, List.set_cons_succ]
    refine wpAnyR_step 52 rfl (by kernel_rfl) (fun K hK => ?_)
    go_simp
    have hbR := (Below.refl wQ.heap.size wQ).alloc (Nat.le_refl _) (.cells #[.int .u8 97] 5)
    have hnT := heap_alloc_new wQ (.cells #[.int .u8 97] 5 (1, 2))
    have hbT := (Below.refl wQ.heap.size wQ).alloc (Nat.le_refl _) (.cells #[.int .u8 97] 5 (1, 2))
    have hzT : (wQ.alloc (.cells #[.int .u8 97] 5 (1, 2))).heap.size = wQ.heap.size + 1 := by simp
    have hcv : (convert 23 23 (.slice (some ⟨wQ.heap.size, 0, none⟩) 1 1)).run Try.prog (wQ.alloc (.cells #[.int .u8 97] 5)) = .ok (.slice (some ⟨wQ.heap.size, 0, none⟩) 1 1) (wQ.alloc (.cells #[.int .u8 97] 5 (1, 2))) := Lib.run_convert_bytes_const (P := Try.prog) wQ 23 5 #[.int .u8 97] 1 1 Try.underlying23 Try.underlying5
    obtain ⟨wR, hWR⟩ : ∃ wR, wQ.alloc (.cells #[.int .u8 97] 5) = wR := ⟨_, rfl⟩
    obtain ⟨wT, hWT⟩ : ∃ wT, wQ.alloc (.cells #[.int .u8 97] 5 (1, 2)) = wT := ⟨_, rfl⟩
    rw [hWR] at hbR hcv ⊢
    rw [hWT] at hnT hbT hzT hcv
    have hyT : BytS wT (oldT wT) (some ⟨wQ.heap.size, 0, none⟩) 1 1 [97] := ⟨rfl, ⟨Nat.le_refl _, by omega⟩, (by intro z hz; simp at hz; subst hz; omega), fun _ => ⟨wQ.heap.size, 0, rfl, show wQ.heap.size < wT.heap.size by omega, fun i hi => by
      obtain rfl : i = 0 := by omega
      exact cell_of_row _ _ 0 _ _ (1, 2) hnT⟩⟩
    have haT : Calls Try.prog 24 #[.slice (some ⟨wQ.heap.size, 0, none⟩) 1 1] wT (CpP wT (.mk 4 0 [97] .nil .nil)) := pStrC (some ⟨wQ.heap.size, 0, none⟩) 1 [97] (oldT wT) wT hyT (fun g hg => hg) (by simp)
    have HAT := Lib.hid haT
    have HCQ := HC
    have HC' := Lib.hid (HC.out.trans (hbR.mono HC.out.size))
    clear HC
    have HC := HC'
    clear HC'
    clear hyT haT hnT hzT hbR hWR hWT
    refine hK.out _ _ (HEL.out _ HC.out) (fun hHeld => ?_)
    clear hK K
    try simp only [Act.put, List.setIfInBounds_toArray, List.set_cons_zero, List.set_cons_succ]
    refine wpAnyR_step 53 rfl (by kernel_rfl) (fun K hK => ?_)
    go_simp
    clear HC
    have HC := HCQ
    clear HCQ
    have HC' := Lib.hid (HC.out.trans (hbT.mono HC.out.size))
    clear HC
    have HC := HC'
    clear HC'
    clear hbT
    (try simp only [hcv, Result.andThen])
    clear hcv
    refine hK.out _ _ (HEL.out _ HC.out) (fun hHeld => ?_)
    clear hK K
    try simp only [Act.put, List.setIfInBounds_toArray, List.set_cons_zero, List.set_cons_succ]
    refine wpAnyR_step 54 rfl (by kernel_rfl) (fun K hK => ?_)
    go_simp
    go_at_call 24
    refine (HAT.out).mono ?_
    rintro r wU ⟨rU0, rU1, rU2, rU3, rU4, rfl, hxU, hbX⟩
    have HC' := Lib.hid (HC.out.trans (hbX.mono HC.out.size))
    clear HC
    have HC := HC'
    clear HC'
    clear hbX
    have e1 : rU0 = .int .i64 4 := kind_c0 hxU
    subst e1
    go_wp2_with fail
    refine hK.out _ _ (HEL.out _ HC.out) (fun hHeld => ?_)
    clear hK K
    try simp only [Act.put, List.setIfInBounds_toArray, List.set_cons_zero, List.set_cons_succ]
    refine wpAnyR_take 55 rfl (by kernel_rfl) (by kernel_rfl) (by kernel_rfl) (by kernel_rfl) (fun _ _ _ h => h) (by rfl) (v := ?_) ?_ (by assumption) ?_
    rotate_left
    focus
      intro wS hSw
      (try dsimp only at hSw)
      go_simp
      (try simp only [hSw])
      (try simp only [hfd, Result.andThen])
      try with_reducible rfl
    intro hHeld
    try simp only [Act.put, List.setIfInBounds_toArray, List.set_cons_zero, List.set_cons_succ]
    refine wpAnyR_take 56 rfl (by kernel_rfl) (by kernel_rfl) (by kernel_rfl) (by kernel_rfl) (fun _ _ _ h => h) (by rfl) (v := ?_) ?_ (by assumption) ?_
    rotate_left
    focus
      intro wS hSw
      (try dsimp only at hSw)
      go_simp
      (try simp only [hSw])
      (try simp only [hfd, Result.andThen])
      try with_reducible rfl
    intro hHeld
    try simp only [Act.put, List.setIfInBounds_toArray, List.set_cons_zero, List.set_cons_succ]
    refine wpAnyR_take 57 rfl (by kernel_rfl) (by kernel_rfl) (by kernel_rfl) (by kernel_rfl) (fun _ _ _ h => h) (by rfl) (v := ?_) ?_ (by assumption) ?_
    rotate_left
    focus
      intro wS hSw
      (try dsimp only at hSw)
      go_simp
      (try simp only [hSw])
      (try simp only [hfd, Result.andThen])
      try with_reducible rfl
    intro hHeld
    try simp only [Act.put, List.setIfInBounds_toArray, List.set_cons_zero, List.set_cons_succ]
    refine wpAnyR_take 58 rfl (by kernel_rfl) (by kernel_rfl) (by kernel_rfl) (by kernel_rfl) (fun _ _ _ h => h) (by rfl) (v := ?_) ?_ (by assumption) ?_
    rotate_left
    focus
      intro wS hSw
      (try dsimp only at hSw)
      go_simp
      (try simp only [hSw])
      (try simp only [hfd, Result.andThen])
      try with_reducible rfl
    intro hHeld
    try simp only [Act.put, List.setIfInBounds_toArray, List.set_cons_zero]
    refine wpAnyR_done (by kernel_rfl) ?_
    refine NoPanic.normal ?_
    go_wp2_with fail
    go_ret
    exact ⟨rfl, HRT.out _ HC.out⟩
set_option maxRecDepth 100000 in
theorem cknown_lifted (os : Os) (started : os.Started) (H : Type) (enc : TypeId × Value → H) :
    ReturnsInHanded {} Try.checked os 3 .any (Rows.cosKnownSpec.pre6 enc Try.prog Try.f3 Rows.cosKnownRow.domain false) (Rows.cosKnownSpec.post enc Try.prog Try.f3 false true false false) := by
  refine returnsInHanded_of_change (C := Try.checked) own started (by kernel_rfl) Try.func3
    (ChangeSpec.witness6 (enc := enc) (C := Try.checked) false ⟨#[], #[], []⟩ 8 (by kernel_rfl) (by kernel_rfl) (by kernel_rfl) (by kernel_rfl)) ?_
  intro W base args ds gs before hval0 hW hcnd _
  have hval : ∀ (j : Nat) t v, Try.f3.params[j]? = some t → args[j]? = some v → Value.okWide Try.prog W .any base t v := hval0
  have hW' := hW
  obtain ⟨p, q, hA0, hV, rfl, hfz, hnd⟩ := hW
  have hA : DataW.TrodAll enc Try.prog W 0 (fun _ => true) true Try.f3.params.toList args.toList ds p := hA0
  rw [Try.params3] at hA hval
  obtain ⟨rfl, rfl, rfl⟩ := trodAll_none hA
  obtain ⟨rfl, rfl⟩ := trodVars_none hV
  clear hA0 hval0
  simp only [List.append_nil] at hW'
  refine (cknown_walk W).mono fun e W' ⟨he, bel⟩ => ?_
  subst he
  exact ⟨_, rfl, _, _, _, [], [], [], hW', trodAll_mk1 (shut_bool Try.underlying4 _), trodAll_mk0, rfl, bel.frame _, fun h => by cases h⟩
/-- CosKnown: it answers true. -/
theorem cknown_holds : Rows.CosKnownSaid :=
  OpenClaim.holds_of_wide 3 Try.f3 rfl rfl rfl rfl rfl rfl rfl ⟨rfl, rfl, rfl, rfl, rfl⟩ rfl rfl rfl rfl rfl (by kernel_rfl) Try.func3 (by kernel_rfl)
    (of_decide_eq_true (by kernel_rfl)) (by unfold Func.isWrapper; first | (rw [if_pos (by decide +kernel)]; kernel_rfl) | (rw [if_neg (by decide +kernel)]; exact ⟨rfl, rfl⟩))
    (fun os started H enc _ => cknown_lifted os started H enc)
#print axioms cknown_holds
end Go.Proofs.Ytdkmomdioiipjaa
