/- Contracts of functions that the law calls, and what they lean on (a part). -/
import Derived.Test.YtdkmomdioiipjaaCmy3
import Derived.Test.YtdkmomdioiipjaaCmy16
namespace Go.Proofs.Ytdkmomdioiipjaa
section
open Go.RowKit Go.Sort
set_option linter.unusedVariables false
set_option maxRecDepth 100000
abbrev sA : ByteArray := ⟨#[65]⟩
abbrev sB : ByteArray := ⟨#[66]⟩
abbrev int1 : Ob := .mk 2 1 [] .nil .nil
abbrev int2 : Ob := .mk 2 2 [] .nil .nil
abbrev awE : Ens := .cons sB int2 (.cons sA int1 (.cons sB zeroOb .nil))
theorem aw_dict : dictF awE .nil = .cons sA int1 .nil := by
  have h1 : leS sA sB = true := by decide +kernel
  have h2 : leS sB sA = false := by decide +kernel
  have h3 : ¬ sB = sA := by decide
  have h4 : ¬ sA = sB := by decide
  have h5 : leS sB sB = true := by decide +kernel
  simp [dictF, withE, Ob.kind, h1, h2, h5]
theorem aw_get : getF (.mk 7 0 [] .nil (.cons sA int1 .nil)) sA = int1 := by
  unfold getF
  rw [keyedE, if_pos (.inl rfl), Ens.toL, lk, if_pos rfl]; rfl
set_option maxHeartbeats 4000000 in
theorem awake_any10 (w : World) : Calls Try.prog 8 #[] w fun e w' => e = .returned (.bool true) ∧ Below w.heap.size w w' := by
  have hfd : ∀ (v0 v1 v2 v3 v4 : Value) (Wx : World), (Instr.field 27 (.agg #[v0, v1, v2, v3, v4]) 1).run Try.prog Wx = .ok v1 Wx := fun _ _ _ _ _ _ => by kernel_rfl
  go_enter Try.func8, Try.ntmps8
  go_wp2_with fail
  refine (pIntC 2 _ (by omega)).mono ?_
  rintro r w1 ⟨a0, a1, a2, a3, a4, rfl, hx1, hb1⟩
  go_wp2_with fail
  refine (pPairC 1 sB int2 (fun g => w.heap.size ≤ g ∧ g < w1.heap.size) w1 _ _ _ _ _ hx1 (fun g hg => hg.2) (by simp [wdO, wdL, wdE, Obs.len, Ens.len]) (by simp [htO, htL, htE])).mono ?_
  rintro r w2 ⟨b0, b1, b2, b3, b4, rfl, hx2, hb2⟩
  go_wp2_with fail
  refine (pIntC 1 _ (by omega)).mono ?_
  rintro r w3 ⟨c0, c1, c2, c3, c4, rfl, hx3, hb3⟩
  go_wp2_with fail
  refine (pPairC 1 sA int1 (fun g => w2.heap.size ≤ g ∧ g < w3.heap.size) w3 _ _ _ _ _ hx3 (fun g hg => hg.2) (by simp [wdO, wdL, wdE, Obs.len, Ens.len]) (by simp [htO, htL, htE])).mono ?_
  rintro r w4 ⟨d0, d1, d2, d3, d4, rfl, hx4, hb4⟩
  go_wp2_with fail
  refine (pNoneC _).mono ?_
  rintro r w5 ⟨e0, e1, e2, e3, e4, rfl, hx5, hb5⟩
  go_wp2_with fail
  refine (pPairC 1 sB zeroOb (fun g => w4.heap.size ≤ g ∧ g < w5.heap.size) w5 _ _ _ _ _ hx5 (fun g hg => hg.2) (by simp [wdO, wdL, wdE, Obs.len, Ens.len]) (by simp [htO, htL, htE])).mono ?_
  rintro r w6 ⟨f0, f1, f2, f3, f4, rfl, hx6, hb6⟩
  -- all of it in the last world
  have s1 := hb1.size
  have s2 := hb2.size
  have s3 := hb3.size
  have s4 := hb4.size
  have s5 := hb5.size
  have s6 := hb6.size
  have b26 : Below w2.heap.size w2 w6 := hb3.trans ((hb4.trans ((hb5.trans (hb6.mono s5)).mono s4)).mono s3)
  have b46 : Below w4.heap.size w4 w6 := hb5.trans (hb6.mono s5)
  have b06 : Below w.heap.size w w6 := hb1.trans ((hb2.trans (b26.mono s2)).mono s1)
  have y2 : ObR w6 (oldT w6) int2 b0 b1 b2 b3 b4 := ObR.keep (fun g hg => b26.block g hg.2) (fun g hg => show g < w6.heap.size by have := hg.2; omega) _ hx2
  have y4 : ObR w6 (oldT w6) int1 d0 d1 d2 d3 d4 := ObR.keep (fun g hg => b46.block g hg.2) (fun g hg => show g < w6.heap.size by have := hg.2; omega) _ hx4
  have y6 : ObR w6 (oldT w6) zeroOb f0 f1 f2 f3 f4 := ObR.keep (fun _ _ => rfl) (fun g hg => hg.2) _ hx6
  obtain ⟨k1, n1, A12, m12, c12, A13, m13, c13, A14, m14, c14, rfl, rfl, rfl, rfl, rfl⟩ := y2.form
  obtain ⟨k2, n2, A22, m22, c22, A23, m23, c23, A24, m24, c24, rfl, rfl, rfl, rfl, rfl⟩ := y4.form
  obtain ⟨k3, n3, A32, m32, c32, A33, m33, c33, A34, m34, c34, rfl, rfl, rfl, rfl, rfl⟩ := y6.form
  have HY2 := Lib.hid y2
  have HY4 := Lib.hid y4
  have HY6 := Lib.hid y6
  have HB6 := Lib.hid b06
  clear hx1 hx2 hx3 hx4 hx5 hx6 hb1 hb2 hb3 hb4 hb5 hb6 s1 s2 s3 s4 s5 s6 b26 b46 y2 y4 y6 b06
  go_wp2_with fail
  obtain ⟨w7, hW7⟩ : ∃ w7, w6.alloc (.cells #[.string sB, .int .i64 k1, .int .i64 n1, .slice A12 m12 c12, .slice A13 m13 c13, .slice A14 m14 c14, .string sA, .int .i64 k2, .int .i64 n2, .slice A22 m22 c22, .slice A23 m23 c23, .slice A24 m24 c24, .string sB, .int .i64 k3, .int .i64 n3, .slice A32 m32 c32, .slice A33 m33 c33, .slice A34 m34 c34] 32) = w7 := ⟨_, rfl⟩
  have hn7 := heap_alloc_new w6 (.cells #[.string sB, .int .i64 k1, .int .i64 n1, .slice A12 m12 c12, .slice A13 m13 c13, .slice A14 m14 c14, .string sA, .int .i64 k2, .int .i64 n2, .slice A22 m22 c22, .slice A23 m23 c23, .slice A24 m24 c24, .string sB, .int .i64 k3, .int .i64 n3, .slice A32 m32 c32, .slice A33 m33 c33, .slice A34 m34 c34] 32)
  have hb7 := (Below.refl w6.heap.size w6).alloc (Nat.le_refl _) (.cells #[.string sB, .int .i64 k1, .int .i64 n1, .slice A12 m12 c12, .slice A13 m13 c13, .slice A14 m14 c14, .string sA, .int .i64 k2, .int .i64 n2, .slice A22 m22 c22, .slice A23 m23 c23, .slice A24 m24 c24, .string sB, .int .i64 k3, .int .i64 n3, .slice A32 m32 c32, .slice A33 m33 c33, .slice A34 m34 c34] 32)
  have hs7 : w7.heap.size = w6.heap.size + 1 := by rw [← hW7]; simp
  rw [hW7] at hn7 hb7 ⊢
  have hkp : ∀ (x : Ob) {v0 v1 v2 v3 v4 : Value}, ObR w6 (oldT w6) x v0 v1 v2 v3 v4 → ObR w7 (oldT w7) x v0 v1 v2 v3 v4 := fun x {v0 v1 v2 v3 v4} h => ObR.keep (fun g hg => hb7.block g hg) (fun g hg => show g < w7.heap.size by have : g < w6.heap.size := hg; omega) x h
  have hEV : EnsV w7 (oldT w7) awE (some ⟨w6.heap.size, 0, none⟩) 3 := by
    refine ⟨⟨by decide, by omega⟩, fun _ => ⟨w6.heap.size, 0, rfl, show w6.heap.size < w7.heap.size by omega, ?_⟩⟩
    refine ⟨⟨_, _, _, _, _, cell_of_row _ _ 0 _ _ (0, 0) hn7, cell_of_row _ _ 1 _ _ (0, 0) hn7, cell_of_row _ _ 2 _ _ (0, 0) hn7, cell_of_row _ _ 3 _ _ (0, 0) hn7, cell_of_row _ _ 4 _ _ (0, 0) hn7, cell_of_row _ _ 5 _ _ (0, 0) hn7, hkp _ HY2.out⟩, ⟨_, _, _, _, _, cell_of_row _ _ 6 _ _ (0, 0) hn7, cell_of_row _ _ 7 _ _ (0, 0) hn7, cell_of_row _ _ 8 _ _ (0, 0) hn7, cell_of_row _ _ 9 _ _ (0, 0) hn7, cell_of_row _ _ 10 _ _ (0, 0) hn7, cell_of_row _ _ 11 _ _ (0, 0) hn7, hkp _ HY4.out⟩, ⟨_, _, _, _, _, cell_of_row _ _ 12 _ _ (0, 0) hn7, cell_of_row _ _ 13 _ _ (0, 0) hn7, cell_of_row _ _ 14 _ _ (0, 0) hn7, cell_of_row _ _ 15 _ _ (0, 0) hn7, cell_of_row _ _ 16 _ _ (0, 0) hn7, cell_of_row _ _ 17 _ _ (0, 0) hn7, hkp _ HY6.out⟩, trivial⟩
  have hB7 : Below w.heap.size w w7 := HB6.out.trans (hb7.mono HB6.out.size)
  clear hn7 hb7 hs7 hkp hW7 HY2 HY4 HY6 HB6
  have hD := pDictC 3 awE (oldT w7) w7 (some ⟨w6.heap.size, 0, none⟩) 3 hEV (fun g hg => hg) (by simp [Ens.toL, Ob.kind]) (by simp [wdO, wdL, wdE, Obs.len, Ens.len]) (by simp [Ens.len]) (by simp [htO, htL, htE]) (by omega)
  rw [aw_dict] at hD
  have HB7 := Lib.hid hB7
  clear hEV hB7
  refine hD.mono ?_
  clear hD
  rintro r w8 ⟨g0, g1, g2, g3, g4, rfl, hx8, hb8⟩
  have y8 : ObR w8 (oldT w8) (.mk 7 0 [] .nil (.cons sA int1 .nil)) g0 g1 g2 g3 g4 := ObR.keep (fun _ _ => rfl) (fun g hg => hg.2) _ hx8
  have hB8 : Below w.heap.size w w8 := HB7.out.trans (hb8.mono HB7.out.size)
  clear hx8 hb8 HB7
  -- the dictionary lies in a block
  have y := y8
  unfold ObR at y
  obtain ⟨rfl, rfl, -, -, ⟨AB, mb, cb, rfl, -⟩, ⟨AL, cL, rfl, -, -⟩, ⟨AD, cD, rfl, hdc, hd⟩⟩ := y
  have hlen : (Ens.cons sA int1 .nil).len = 1 := rfl
  have hlen0 : Obs.nil.len = 0 := rfl
  obtain ⟨gg, oo, rfl, hg, hE⟩ := hd (by rw [hlen]; omega)
  unfold EnsR at hE
  obtain ⟨⟨v0, v1, v2, v3, v4, q0, -⟩, -⟩ := hE
  have Y8 := y8
  rw [hlen, hlen0] at Y8 ⊢
  have hn9 := heap_alloc_new w8 (.cells #[.int .i64 7, .int .i64 0, .slice AB mb cb, .slice AL 0 cL, .slice (some ⟨gg, oo, none⟩) 1 cD] 27)
  have hb9 := (Below.refl w8.heap.size w8).alloc (Nat.le_refl _) (.cells #[.int .i64 7, .int .i64 0, .slice AB mb cb, .slice AL 0 cL, .slice (some ⟨gg, oo, none⟩) 1 cD] 27)
  obtain ⟨w9, hW9⟩ : ∃ w9, w8.alloc (.cells #[.int .i64 7, .int .i64 0, .slice AB mb cb, .slice AL 0 cL, .slice (some ⟨gg, oo, none⟩) 1 cD] 27) = w9 := ⟨_, rfl⟩
  have hs9 : w9.heap.size = w8.heap.size + 1 := by rw [← hW9]; simp
  rw [hW9] at hn9 hb9
  have q9 : w9.cell? ⟨gg, oo, none⟩ = some (.string sA) := (World.cell?_of_block (hb9.block gg hg)).trans q0
  have r0 : w9.cell? ⟨w8.heap.size, 0, none⟩ = some (.int .i64 7) := cell_of_row _ _ 0 _ _ (0, 0) hn9
  have r1 : w9.cell? ⟨w8.heap.size, 1, none⟩ = some (.int .i64 0) := cell_of_row _ _ 1 _ _ (0, 0) hn9
  have r2 : w9.cell? ⟨w8.heap.size, 2, none⟩ = some (.slice AB mb cb) := cell_of_row _ _ 2 _ _ (0, 0) hn9
  have r3 : w9.cell? ⟨w8.heap.size, 3, none⟩ = some (.slice AL 0 cL) := cell_of_row _ _ 3 _ _ (0, 0) hn9
  have r4 : w9.cell? ⟨w8.heap.size, 4, none⟩ = some (.slice (some ⟨gg, oo, none⟩) 1 cD) := cell_of_row _ _ 4 _ _ (0, 0) hn9
  have HY9 : Hid (ObR w9 (oldT w9) (.mk 7 0 [] .nil (.cons sA int1 .nil)) (.int .i64 7) (.int .i64 0) (.slice AB mb cb) (.slice AL 0 cL) (.slice (some ⟨gg, oo, none⟩) 1 cD)) := Lib.hid (ObR.keep (fun g hg => hb9.block g hg) (fun g hg => show g < w9.heap.size by have : g < w8.heap.size := hg; omega) _ Y8)
  have HB9 := Lib.hid (hB8.trans (hb9.mono hB8.size))
  have HW9 := Lib.hid hW9
  clear hn9 hb9 hs9 y8 Y8 hB8 hW9 hdc hd hlen hlen0 hg q0
  go_upto_region 2 with fail
  rw [HW9.out]
  go_wp2_with fail
  have hG := pGetC 3 _ sA _ w9 _ _ _ _ _ HY9.out (fun g hg => hg) (by simp [keyedE, wdO, wdL, wdE, Obs.len, Ens.len]) (by simp [keyedE, htO, htL, htE]) (by simp [keyedE, Ens.len])
  rw [aw_get] at hG
  refine hG.mono ?_
  clear hG
  rintro r w10 ⟨t0, t1, t2, t3, t4, rfl, hx10, hb10⟩
  unfold ObR at hx10
  obtain ⟨rfl, rfl, -, -, ⟨_, _, _, rfl, -⟩, ⟨_, _, rfl, -, -⟩, ⟨_, _, rfl, -, -⟩⟩ := hx10
  have HB10 := Lib.hid (HB9.out.trans (hb10.mono HB9.out.size))
  clear hb10
  go_wp2_with (first | with_reducible exact hfd _ _ _ _ _ _)
  go_ret
  exact ⟨rfl, HB10.out⟩
end
end Go.Proofs.Ytdkmomdioiipjaa
