/- CosSame: two objects that may be are the same, or not; one is the same as its copy; the copy is its own. No condition on the input. -/
import Derived.Test.YtdkmomdioiipjaaCsa25
namespace Go.Proofs.Ytdkmomdioiipjaa
open Go.ChangeShapes Go.WideShapes Go.ChangeAt Go.RowKit Go.Deep
set_option linter.unusedVariables false
set_option maxRecDepth 100000
set_option maxHeartbeats 8000000 in
theorem csame_walk (x : Ob) (a0 a1 a2 a3 a4 : Value) (y : Ob) (b0 b1 b2 b3 b4 : Value) (w : World) (hx : ObR w (fun g => g < w.heap.size) x a0 a1 a2 a3 a4) (hy : ObR w (fun g => g < w.heap.size) y b0 b1 b2 b3 b4) :
    Calls Try.prog 6 #[.agg #[a0, a1, a2, a3, a4], .agg #[b0, b1, b2, b3, b4]] w fun e w' => e = .returned (.bool true) ∧ Below w.heap.size w w' := by
  obtain ⟨k9, n9, A29, m29, c29, A39, m39, c39, A49, m49, c49, rfl, rfl, rfl, rfl, rfl⟩ := hx.form
  obtain ⟨k8, n8, A28, m28, c28, A38, m38, c38, A48, m48, c48, rfl, rfl, rfl, rfl, rfl⟩ := hy.form
  have hb2 := ((Below.refl w.heap.size w).alloc (Nat.le_refl _) (.cells #[.int .i64 k9, .int .i64 n9, .slice A29 m29 c29, .slice A39 m39 c39, .slice A49 m49 c49] 27)).alloc (by simp) (.cells #[.int .i64 k8, .int .i64 n8, .slice A28 m28 c28, .slice A38 m38 c38, .slice A48 m48 c48] 27)
  have hn2 := heap_alloc2_new w (.cells #[.int .i64 k9, .int .i64 n9, .slice A29 m29 c29, .slice A39 m39 c39, .slice A49 m49 c49] 27) (.cells #[.int .i64 k8, .int .i64 n8, .slice A28 m28 c28, .slice A38 m38 c38, .slice A48 m48 c48] 27)
  have hn1 : ((w.alloc (.cells #[.int .i64 k9, .int .i64 n9, .slice A29 m29 c29, .slice A39 m39 c39, .slice A49 m49 c49] 27)).alloc (.cells #[.int .i64 k8, .int .i64 n8, .slice A28 m28 c28, .slice A38 m38 c38, .slice A48 m48 c48] 27)).heap[w.heap.size]? = some (.cells #[.int .i64 k9, .int .i64 n9, .slice A29 m29 c29, .slice A39 m39 c39, .slice A49 m49 c49] 27) := by
    rw [heap_alloc_old _ _ (by simp)]; exact heap_alloc_new w _
  obtain ⟨W2, hW2⟩ : ∃ W2, (w.alloc (.cells #[.int .i64 k9, .int .i64 n9, .slice A29 m29 c29, .slice A39 m39 c39, .slice A49 m49 c49] 27)).alloc (.cells #[.int .i64 k8, .int .i64 n8, .slice A28 m28 c28, .slice A38 m38 c38, .slice A48 m48 c48] 27) = W2 := ⟨_, rfl⟩
  rw [hW2] at hb2 hn2 hn1
  have hs2 : W2.heap.size = w.heap.size + 2 := by rw [← hW2]; simp
  have HX : Hid (∀ W, Below w.heap.size w W → ObR W (fun g => g < w.heap.size) x (.int .i64 k9) (.int .i64 n9) (.slice A29 m29 c29) (.slice A39 m39 c39) (.slice A49 m49 c49)) := Lib.hid (fun W hW => ObR.keep (fun g hg => hW.block g hg) (fun _ h => h) x hx)
  have HY : Hid (∀ W, Below w.heap.size w W → ObR W (fun g => g < w.heap.size) y (.int .i64 k8) (.int .i64 n8) (.slice A28 m28 c28) (.slice A38 m38 c38) (.slice A48 m48 c48)) := Lib.hid (fun W hW => ObR.keep (fun g hg => hW.block g hg) (fun _ h => h) y hy)
  have HBW : Hid (∀ W, Below W2.heap.size W2 W → Below w.heap.size w W) := Lib.hid (fun W hW => hb2.trans (hW.mono (by omega)))
  have HEL : Hid (∀ W, Below W2.heap.size W2 W → W.cell? ⟨w.heap.size, 0, none⟩ = some (.int .i64 k9) ∧ W.cell? ⟨w.heap.size, 1, none⟩ = some (.int .i64 n9) ∧ W.cell? ⟨w.heap.size, 2, none⟩ = some (.slice A29 m29 c29) ∧ W.cell? ⟨w.heap.size, 3, none⟩ = some (.slice A39 m39 c39) ∧ W.cell? ⟨w.heap.size, 4, none⟩ = some (.slice A49 m49 c49) ∧ W.cell? ⟨w.heap.size + 1, 0, none⟩ = some (.int .i64 k8) ∧ W.cell? ⟨w.heap.size + 1, 1, none⟩ = some (.int .i64 n8) ∧ W.cell? ⟨w.heap.size + 1, 2, none⟩ = some (.slice A28 m28 c28) ∧ W.cell? ⟨w.heap.size + 1, 3, none⟩ = some (.slice A38 m38 c38) ∧ W.cell? ⟨w.heap.size + 1, 4, none⟩ = some (.slice A48 m48 c48)) := Lib.hid (fun W hW => by
    have e1 := (hW.block w.heap.size (by omega)).trans hn1
    have e2 := (hW.block (w.heap.size + 1) (by omega)).trans hn2
    exact ⟨cell_of_row _ _ 0 _ _ (0, 0) e1, cell_of_row _ _ 1 _ _ (0, 0) e1, cell_of_row _ _ 2 _ _ (0, 0) e1, cell_of_row _ _ 3 _ _ (0, 0) e1, cell_of_row _ _ 4 _ _ (0, 0) e1, cell_of_row _ _ 0 _ _ (0, 0) e2, cell_of_row _ _ 1 _ _ (0, 0) e2, cell_of_row _ _ 2 _ _ (0, 0) e2, cell_of_row _ _ 3 _ _ (0, 0) e2, cell_of_row _ _ 4 _ _ (0, 0) e2⟩)
  have HAW := Lib.hid (awake_any10 W2)
  have HMX0 := fun W (hW : Below W2.heap.size W2 W) => mayTopC x (fun g => g < w.heap.size) W _ _ _ _ _ (HX.out W (HBW.out W hW)) (fun g hg => Nat.lt_of_lt_of_le hg (HBW.out W hW).size)
  have HMY0 := fun W (hW : Below W2.heap.size W2 W) => mayTopC y (fun g => g < w.heap.size) W _ _ _ _ _ (HY.out W (HBW.out W hW)) (fun g hg => Nat.lt_of_lt_of_le hg (HBW.out W hW).size)
  have HRX0 := fun W (hW : Below W2.heap.size W2 W) => roomC _ x (Nat.le_refl _) (fun g => g < w.heap.size) W _ _ _ _ _ 8 60 (HX.out W (HBW.out W hW)) (fun g hg => Nat.lt_of_lt_of_le hg (HBW.out W hW).size) (by omega)
  have HRY0 := fun W (hW : Below W2.heap.size W2 W) => roomC _ y (Nat.le_refl _) (fun g => g < w.heap.size) W _ _ _ _ _ 8 60 (HY.out W (HBW.out W hW)) (fun g hg => Nat.lt_of_lt_of_le hg (HBW.out W hW).size) (by omega)
  obtain ⟨MX, hMX⟩ : ∃ MX, mayO x 28 = MX := ⟨_, rfl⟩
  obtain ⟨MY, hMY⟩ : ∃ MY, mayO y 28 = MY := ⟨_, rfl⟩
  obtain ⟨RX, hRX⟩ : ∃ RX, roomO x 8 60 = RX := ⟨_, rfl⟩
  obtain ⟨RY, hRY⟩ : ∃ RY, roomO y 8 60 = RY := ⟨_, rfl⟩
  simp only [hMX] at HMX0
  simp only [hMY] at HMY0
  simp only [hRX] at HRX0
  simp only [hRY] at HRY0
  have HMX := Lib.hid HMX0
  have HMY := Lib.hid HMY0
  have HRX := Lib.hid HRX0
  have HRY := Lib.hid HRY0
  have HHX := Lib.hid hx
  have HHY := Lib.hid hy
  have HW2 := Lib.hid hW2
  have HS2 := Lib.hid hs2
  clear HMX0 HMY0 HRX0 HRY0 hx hy hW2 hb2 hn2 hn1 hs2
  go_enter Try.func6, Try.ntmps6
  go_upto_region 1 with fail
  rw [HW2.out]
  go_upto_region 3 with (go_at_call 8; (with_reducible refine HAW.out.mono ?_); (rintro r w0 ⟨rfl, hb0⟩); have HB := Lib.hid hb0; clear hb0)
  obtain ⟨q0, q1, q2, q3, q4, p0, p1, p2, p3, p4⟩ := HEL.out _ HB.out
  cases MX
  · go_wp2_with (first
      | (go_at_call 26; (with_reducible refine (HMX.out _ HB.out).mono ?_); (rintro r w3 ⟨rfl, hb3⟩); have HB' := Lib.hid (HB.out.trans (hb3.mono HB.out.size)); clear HB hb3 q0 q1 q2 q3 q4 p0 p1 p2 p3 p4; have HB := HB'; clear HB'; (obtain ⟨q0, q1, q2, q3, q4, p0, p1, p2, p3, p4⟩ := HEL.out _ HB.out)))
    go_ret
    exact ⟨rfl, HBW.out _ HB.out⟩
  cases MY
  · go_wp2_with (first
      | (go_at_call 26; (with_reducible refine (HMX.out _ HB.out).mono ?_); (rintro r w3 ⟨rfl, hb3⟩); have HB' := Lib.hid (HB.out.trans (hb3.mono HB.out.size)); clear HB hb3 q0 q1 q2 q3 q4 p0 p1 p2 p3 p4; have HB := HB'; clear HB'; (obtain ⟨q0, q1, q2, q3, q4, p0, p1, p2, p3, p4⟩ := HEL.out _ HB.out))
      | (go_at_call 26; (with_reducible refine (HMY.out _ HB.out).mono ?_); (rintro r w4 ⟨rfl, hb4⟩); have HB' := Lib.hid (HB.out.trans (hb4.mono HB.out.size)); clear HB hb4 q0 q1 q2 q3 q4 p0 p1 p2 p3 p4; have HB := HB'; clear HB'; (obtain ⟨q0, q1, q2, q3, q4, p0, p1, p2, p3, p4⟩ := HEL.out _ HB.out)))
    go_ret
    exact ⟨rfl, HBW.out _ HB.out⟩
  cases RX
  · go_wp2_with (first
      | (go_at_call 26; (with_reducible refine (HMX.out _ HB.out).mono ?_); (rintro r w3 ⟨rfl, hb3⟩); have HB' := Lib.hid (HB.out.trans (hb3.mono HB.out.size)); clear HB hb3 q0 q1 q2 q3 q4 p0 p1 p2 p3 p4; have HB := HB'; clear HB'; (obtain ⟨q0, q1, q2, q3, q4, p0, p1, p2, p3, p4⟩ := HEL.out _ HB.out))
      | (go_at_call 26; (with_reducible refine (HMY.out _ HB.out).mono ?_); (rintro r w4 ⟨rfl, hb4⟩); have HB' := Lib.hid (HB.out.trans (hb4.mono HB.out.size)); clear HB hb4 q0 q1 q2 q3 q4 p0 p1 p2 p3 p4; have HB := HB'; clear HB'; (obtain ⟨q0, q1, q2, q3, q4, p0, p1, p2, p3, p4⟩ := HEL.out _ HB.out))
      | (go_at_call 25; (with_reducible refine (HRX.out _ HB.out).mono ?_); (rintro r w5 ⟨rfl, hb5⟩); have HB' := Lib.hid (HB.out.trans (hb5.mono HB.out.size)); clear HB hb5 q0 q1 q2 q3 q4 p0 p1 p2 p3 p4; have HB := HB'; clear HB'; (obtain ⟨q0, q1, q2, q3, q4, p0, p1, p2, p3, p4⟩ := HEL.out _ HB.out)))
    go_ret
    exact ⟨rfl, HBW.out _ HB.out⟩
  cases RY
  · go_wp2_with (first
      | (go_at_call 26; (with_reducible refine (HMX.out _ HB.out).mono ?_); (rintro r w3 ⟨rfl, hb3⟩); have HB' := Lib.hid (HB.out.trans (hb3.mono HB.out.size)); clear HB hb3 q0 q1 q2 q3 q4 p0 p1 p2 p3 p4; have HB := HB'; clear HB'; (obtain ⟨q0, q1, q2, q3, q4, p0, p1, p2, p3, p4⟩ := HEL.out _ HB.out))
      | (go_at_call 26; (with_reducible refine (HMY.out _ HB.out).mono ?_); (rintro r w4 ⟨rfl, hb4⟩); have HB' := Lib.hid (HB.out.trans (hb4.mono HB.out.size)); clear HB hb4 q0 q1 q2 q3 q4 p0 p1 p2 p3 p4; have HB := HB'; clear HB'; (obtain ⟨q0, q1, q2, q3, q4, p0, p1, p2, p3, p4⟩ := HEL.out _ HB.out))
      | (go_at_call 25; (with_reducible refine (HRX.out _ HB.out).mono ?_); (rintro r w5 ⟨rfl, hb5⟩); have HB' := Lib.hid (HB.out.trans (hb5.mono HB.out.size)); clear HB hb5 q0 q1 q2 q3 q4 p0 p1 p2 p3 p4; have HB := HB'; clear HB'; (obtain ⟨q0, q1, q2, q3, q4, p0, p1, p2, p3, p4⟩ := HEL.out _ HB.out))
      | (go_at_call 25; (with_reducible refine (HRY.out _ HB.out).mono ?_); (rintro r w6 ⟨rfl, hb6⟩); have HB' := Lib.hid (HB.out.trans (hb6.mono HB.out.size)); clear HB hb6 q0 q1 q2 q3 q4 p0 p1 p2 p3 p4; have HB := HB'; clear HB'; (obtain ⟨q0, q1, q2, q3, q4, p0, p1, p2, p3, p4⟩ := HEL.out _ HB.out)))
    go_ret
    exact ⟨rfl, HBW.out _ HB.out⟩
  go_upto_region 5 with (first
    | (go_at_call 26; (with_reducible refine (HMX.out _ HB.out).mono ?_); (rintro r w3 ⟨rfl, hb3⟩); have HB' := Lib.hid (HB.out.trans (hb3.mono HB.out.size)); clear HB hb3 q0 q1 q2 q3 q4 p0 p1 p2 p3 p4; have HB := HB'; clear HB'; (obtain ⟨q0, q1, q2, q3, q4, p0, p1, p2, p3, p4⟩ := HEL.out _ HB.out))
    | (go_at_call 26; (with_reducible refine (HMY.out _ HB.out).mono ?_); (rintro r w4 ⟨rfl, hb4⟩); have HB' := Lib.hid (HB.out.trans (hb4.mono HB.out.size)); clear HB hb4 q0 q1 q2 q3 q4 p0 p1 p2 p3 p4; have HB := HB'; clear HB'; (obtain ⟨q0, q1, q2, q3, q4, p0, p1, p2, p3, p4⟩ := HEL.out _ HB.out))
    | (go_at_call 25; (with_reducible refine (HRX.out _ HB.out).mono ?_); (rintro r w5 ⟨rfl, hb5⟩); have HB' := Lib.hid (HB.out.trans (hb5.mono HB.out.size)); clear HB hb5 q0 q1 q2 q3 q4 p0 p1 p2 p3 p4; have HB := HB'; clear HB'; (obtain ⟨q0, q1, q2, q3, q4, p0, p1, p2, p3, p4⟩ := HEL.out _ HB.out))
    | (go_at_call 25; (with_reducible refine (HRY.out _ HB.out).mono ?_); (rintro r w6 ⟨rfl, hb6⟩); have HB' := Lib.hid (HB.out.trans (hb6.mono HB.out.size)); clear HB hb6 q0 q1 q2 q3 q4 p0 p1 p2 p3 p4; have HB := HB'; clear HB'; (obtain ⟨q0, q1, q2, q3, q4, p0, p1, p2, p3, p4⟩ := HEL.out _ HB.out)))
  clear HMX HMY HRX HRY HAW
  obtain ⟨hwx, htx, hox⟩ := roomW 60 (by omega) x _ _ _ _ _ 28 8 HHX.out hMX hRX
  obtain ⟨hwy, hty, hoy⟩ := roomW 60 (by omega) y _ _ _ _ _ 28 8 HHY.out hMY hRY
  have HWX := Lib.hid (And.intro hwx (And.intro htx hox))
  have HWY := Lib.hid (And.intro hwy (And.intro hty hoy))
  have HMM := Lib.hid (And.intro hMX hMY)
  have HCF := Lib.hid (fun W (hW : Below W2.heap.size W2 W) => pCopyF 1000000000 60 x HWX.out.1 (by have := HWX.out.2.1; omega) (Nat.le_refl _) (fun g => g < w.heap.size) W _ _ _ _ _ (HX.out W (HBW.out W hW)) (fun g hg => Nat.lt_of_lt_of_le hg (HBW.out W hW).size))
  have HSR := Lib.hid (fun W (hW : Below W2.heap.size W2 W) => sameOC _ x (Nat.le_refl _) y (fun g => g < w.heap.size) W _ _ _ _ _ _ _ _ _ _ (HX.out W (HBW.out W hW)) (HY.out W (HBW.out W hW)) (fun g hg => Nat.lt_of_lt_of_le hg (HBW.out W hW).size))
  have HSP := Lib.hid (fun W (hW : Below W2.heap.size W2 W) => pSameC 100000000 60 (by omega) x y 28 28 HMM.out.1 HMM.out.2 HWX.out.1 (by have := HWX.out.2.1; omega) (Nat.le_refl _) (fun g => g < w.heap.size) W _ _ _ _ _ _ _ _ _ _ (HX.out W (HBW.out W hW)) (HY.out W (HBW.out W hW)) (fun g hg => Nat.lt_of_lt_of_le hg (HBW.out W hW).size))
  have HSQ := Lib.hid (fun W (hW : Below W2.heap.size W2 W) => pSameC 100000000 60 (by omega) y x 28 28 HMM.out.2 HMM.out.1 HWY.out.1 (by have := HWY.out.2.1; omega) (Nat.le_refl _) (fun g => g < w.heap.size) W _ _ _ _ _ _ _ _ _ _ (HY.out W (HBW.out W hW)) (HX.out W (HBW.out W hW)) (fun g hg => Nat.lt_of_lt_of_le hg (HBW.out W hW).size))
  simp only [sameO_symm y x] at HSQ
  obtain ⟨BB, hBB⟩ : ∃ BB, sameO x y = BB := ⟨_, rfl⟩
  simp only [hBB] at HSR HSP HSQ
  clear hwx htx hox hwy hty hoy hMX hMY hRX hRY hBB
  have HBA := HB
  go_upto_region 6 with (go_at_call 21; (with_reducible refine (HCF.out _ HB.out).mono ?_); (rintro r w7 ⟨d0, d1, d2, d3, d4, rfl, hd, hb7⟩); (obtain ⟨kc, nc, AB, mB, cB, AL, mL, cL, AD, mD, cD, rfl, rfl, rfl, rfl, rfl⟩ := hd.form); have HD := Lib.hid hd; have HB7 := Lib.hid hb7; have HBx := Lib.hid (HB.out.trans (hb7.mono HB.out.size)); clear HB; have HB := HBx; clear HBx hd hb7)
  have hb8 := (Below.refl w7.heap.size w7).alloc (Nat.le_refl _) (.cells #[.int .i64 kc, .int .i64 nc, .slice AB mB cB, .slice AL mL cL, .slice AD mD cD] 27)
  have hn8 := heap_alloc_new w7 (.cells #[.int .i64 kc, .int .i64 nc, .slice AB mB cB, .slice AL mL cL, .slice AD mD cD] 27)
  have hs8 : (w7.alloc (.cells #[.int .i64 kc, .int .i64 nc, .slice AB mB cB, .slice AL mL cL, .slice AD mD cD] 27)).heap.size = w7.heap.size + 1 := by simp
  obtain ⟨W8, hW8⟩ : ∃ W8, w7.alloc (.cells #[.int .i64 kc, .int .i64 nc, .slice AB mB cB, .slice AL mL cL, .slice AD mD cD] 27) = W8 := ⟨_, rfl⟩
  rw [hW8] at hb8 hn8 hs8 ⊢
  have HS8 := Lib.hid hs8
  have HB8 : Hid (∀ g, g < w7.heap.size → W8.heap[g]? = w7.heap[g]?) := Lib.hid (fun g hg => hb8.block g hg)
  have HD8 : Hid (∀ W, Below W8.heap.size W8 W → ObR W (fun g => w6.heap.size ≤ g ∧ g < w7.heap.size) x (.int .i64 kc) (.int .i64 nc) (.slice AB mB cB) (.slice AL mL cL) (.slice AD mD cD)) := Lib.hid (fun W hW => ObR.keep (fun g hg => (hW.block g (by have := hg.2.1; omega)).trans (hb8.block g hg.2.1)) (fun g hg => ⟨hg.1, hg.2.1⟩) _ HD.out)
  have HB2 : Hid (∀ W, Below W8.heap.size W8 W → Below W2.heap.size W2 W) := Lib.hid (fun W hW => HB.out.trans ((hb8.trans (hW.mono (by omega))).mono HB.out.size))
  have HE8 : Hid (∀ W, Below W8.heap.size W8 W → W.cell? ⟨w.heap.size, 0, none⟩ = some (.int .i64 k9) ∧ W.cell? ⟨w.heap.size, 1, none⟩ = some (.int .i64 n9) ∧ W.cell? ⟨w.heap.size, 2, none⟩ = some (.slice A29 m29 c29) ∧ W.cell? ⟨w.heap.size, 3, none⟩ = some (.slice A39 m39 c39) ∧ W.cell? ⟨w.heap.size, 4, none⟩ = some (.slice A49 m49 c49) ∧ W.cell? ⟨w.heap.size + 1, 0, none⟩ = some (.int .i64 k8) ∧ W.cell? ⟨w.heap.size + 1, 1, none⟩ = some (.int .i64 n8) ∧ W.cell? ⟨w.heap.size + 1, 2, none⟩ = some (.slice A28 m28 c28) ∧ W.cell? ⟨w.heap.size + 1, 3, none⟩ = some (.slice A38 m38 c38) ∧ W.cell? ⟨w.heap.size + 1, 4, none⟩ = some (.slice A48 m48 c48) ∧ W.cell? ⟨w7.heap.size, 0, none⟩ = some (.int .i64 kc) ∧ W.cell? ⟨w7.heap.size, 1, none⟩ = some (.int .i64 nc) ∧ W.cell? ⟨w7.heap.size, 2, none⟩ = some (.slice AB mB cB) ∧ W.cell? ⟨w7.heap.size, 3, none⟩ = some (.slice AL mL cL) ∧ W.cell? ⟨w7.heap.size, 4, none⟩ = some (.slice AD mD cD)) := Lib.hid (fun W hW => by
    obtain ⟨q0, q1, q2, q3, q4, p0, p1, p2, p3, p4⟩ := HEL.out W (HB2.out W hW)
    have e1 := (hW.block w7.heap.size (by omega)).trans hn8
    exact ⟨q0, q1, q2, q3, q4, p0, p1, p2, p3, p4, cell_of_row _ _ 0 _ _ (0, 0) e1, cell_of_row _ _ 1 _ _ (0, 0) e1, cell_of_row _ _ 2 _ _ (0, 0) e1, cell_of_row _ _ 3 _ _ (0, 0) e1, cell_of_row _ _ 4 _ _ (0, 0) e1⟩)
  have HN8 := Lib.hid hn8
  have HY8 : Hid (∀ W, Below W8.heap.size W8 W → Calls Try.prog 34 #[.agg #[.int .i64 k9, .int .i64 n9, .slice A29 m29 c29, .slice A39 m39 c39, .slice A49 m49 c49], .agg #[.int .i64 kc, .int .i64 nc, .slice AB mB cB, .slice AL mL cL, .slice AD mD cD]] W fun r w' => r = .returned (.bool true) ∧ Below W.heap.size W w') := Lib.hid (fun W hW => same_yes x W (ObR.keep (fun _ _ => rfl) (fun g hg => Nat.lt_of_lt_of_le hg (HBW.out W (HB2.out W hW)).size) _ (HX.out W (HBW.out W (HB2.out W hW)))) (ObR.keep (fun _ _ => rfl) (fun g hg => by have := hW.size; omega) _ (HD8.out W hW)))
  have HZ8 : Hid (∀ W, Below W8.heap.size W8 W → Calls Try.prog 20 #[.agg #[.int .i64 k9, .int .i64 n9, .slice A29 m29 c29, .slice A39 m39 c39, .slice A49 m49 c49], .agg #[.int .i64 kc, .int .i64 nc, .slice AB mB cB, .slice AL mL cL, .slice AD mD cD]] W fun r w' => r = .returned (.bool true) ∧ Below W.heap.size W w') := Lib.hid (fun W hW => by
    have h := pSameC 100000000 60 (by omega) x x 28 28 HMM.out.1 HMM.out.1 HWX.out.1 (by have := HWX.out.2.1; omega) (Nat.le_refl _) (fun g => g < W.heap.size) W _ _ _ _ _ _ _ _ _ _ (ObR.keep (fun _ _ => rfl) (fun g hg => Nat.lt_of_lt_of_le hg (HBW.out W (HB2.out W hW)).size) _ (HX.out W (HBW.out W (HB2.out W hW)))) (ObR.keep (fun _ _ => rfl) (fun g hg => by have := hW.size; omega) _ (HD8.out W hW)) (fun g hg => hg)
    rw [sameO_self] at h; exact h)
  have HSP8 := Lib.hid (fun W (hW : Below W8.heap.size W8 W) => HSP.out W (HB2.out W hW))
  have HSQ8 := Lib.hid (fun W (hW : Below W8.heap.size W8 W) => HSQ.out W (HB2.out W hW))
  have HSR8 := Lib.hid (fun W (hW : Below W8.heap.size W8 W) => HSR.out W (HB2.out W hW))
  have HC : Hid (Below W8.heap.size W8 W8.drew) := Lib.hid (Below.refl _ _).drew
  clear hb8 hn8 hs8 hW8 HSP HSQ HSR HCF q0 q1 q2 q3 q4 p0 p1 p2 p3 p4
  refine wp_region_heldR (fun W => W.cell? ⟨w.heap.size, 0, none⟩ = some (.int .i64 k9) ∧ W.cell? ⟨w.heap.size, 1, none⟩ = some (.int .i64 n9) ∧ W.cell? ⟨w.heap.size, 2, none⟩ = some (.slice A29 m29 c29) ∧ W.cell? ⟨w.heap.size, 3, none⟩ = some (.slice A39 m39 c39) ∧ W.cell? ⟨w.heap.size, 4, none⟩ = some (.slice A49 m49 c49) ∧ W.cell? ⟨w.heap.size + 1, 0, none⟩ = some (.int .i64 k8) ∧ W.cell? ⟨w.heap.size + 1, 1, none⟩ = some (.int .i64 n8) ∧ W.cell? ⟨w.heap.size + 1, 2, none⟩ = some (.slice A28 m28 c28) ∧ W.cell? ⟨w.heap.size + 1, 3, none⟩ = some (.slice A38 m38 c38) ∧ W.cell? ⟨w.heap.size + 1, 4, none⟩ = some (.slice A48 m48 c48) ∧ W.cell? ⟨w7.heap.size, 0, none⟩ = some (.int .i64 kc) ∧ W.cell? ⟨w7.heap.size, 1, none⟩ = some (.int .i64 nc) ∧ W.cell? ⟨w7.heap.size, 2, none⟩ = some (.slice AB mB cB) ∧ W.cell? ⟨w7.heap.size, 3, none⟩ = some (.slice AL mL cL) ∧ W.cell? ⟨w7.heap.size, 4, none⟩ = some (.slice AD mD cD)) 1000 (by kernel_rfl) (HE8.out _ HC.out) (fun hHeld => ?_)
  refine wpAnyR_take 0 rfl (by kernel_rfl) (by kernel_rfl) (by kernel_rfl) (by kernel_rfl) (fun _ _ _ h => h) (by rfl) (v := ?_) ?_ (by assumption) ?_
  rotate_left
  focus
    intro wS hSw
    (try dsimp only at hSw)
    go_simp
    (try simp only [hSw])
    try with_reducible rfl
  intro hHeld
  try simp only [Act.put, List.setIfInBounds_toArray, List.set_cons_zero, List.set_cons_succ]
  refine wpAnyR_take 1 rfl (by kernel_rfl) (by kernel_rfl) (by kernel_rfl) (by kernel_rfl) (fun _ _ _ h => h) (by rfl) (v := ?_) ?_ (by assumption) ?_
  rotate_left
  focus
    intro wS hSw
    (try dsimp only at hSw)
    go_simp
    (try simp only [hSw])
    try with_reducible rfl
  intro hHeld
  try simp only [Act.put, List.setIfInBounds_toArray, List.set_cons_zero, List.set_cons_succ]
  refine wpAnyR_step 2 rfl (by kernel_rfl) (fun K hK => ?_)
  go_simp
  go_at_call 34
  refine (HY8.out _ HC.out).mono ?_
  rintro r wq ⟨rfl, hbc⟩
  have HC' := Lib.hid (HC.out.trans (hbc.mono HC.out.size))
  clear HC hbc
  have HC := HC'
  clear HC'
  go_wp2_with fail
  refine hK.out _ _ (HE8.out _ HC.out) (fun hHeld => ?_)
  clear hK K
  try simp only [Act.put, List.setIfInBounds_toArray, List.set_cons_zero, List.set_cons_succ]
  refine wpAnyR_take 3 rfl (by kernel_rfl) (by kernel_rfl) (by kernel_rfl) (by kernel_rfl) (fun _ _ _ h => h) (by rfl) (v := ?_) ?_ (by assumption) ?_
  rotate_left
  focus
    intro wS hSw
    (try dsimp only at hSw)
    go_simp
    (try simp only [hSw])
    try with_reducible rfl
  intro hHeld
  try simp only [Act.put, List.setIfInBounds_toArray, List.set_cons_zero, List.set_cons_succ]
  refine wpAnyR_take 4 rfl (by kernel_rfl) (by kernel_rfl) (by kernel_rfl) (by kernel_rfl) (fun _ _ _ h => h) (by rfl) (v := ?_) ?_ (by assumption) ?_
  rotate_left
  focus
    intro wS hSw
    (try dsimp only at hSw)
    go_simp
    (try simp only [hSw])
    try with_reducible rfl
  intro hHeld
  try simp only [Act.put, List.setIfInBounds_toArray, List.set_cons_zero, List.set_cons_succ]
  refine wpAnyR_take 5 rfl (by kernel_rfl) (by kernel_rfl) (by kernel_rfl) (by kernel_rfl) (fun _ _ _ h => h) (by rfl) (v := ?_) ?_ (by assumption) ?_
  rotate_left
  focus
    intro wS hSw
    (try dsimp only at hSw)
    go_simp
    (try simp only [hSw])
    try with_reducible rfl
  intro hHeld
  try simp only [Act.put, List.setIfInBounds_toArray, List.set_cons_zero, List.set_cons_succ]
  refine wpAnyR_take 6 rfl (by kernel_rfl) (by kernel_rfl) (by kernel_rfl) (by kernel_rfl) (fun _ _ _ h => h) (by rfl) (v := ?_) ?_ (by assumption) ?_
  rotate_left
  focus
    intro wS hSw
    (try dsimp only at hSw)
    go_simp
    (try simp only [hSw])
    try with_reducible rfl
  intro hHeld
  try simp only [Act.put, List.setIfInBounds_toArray, List.set_cons_zero, List.set_cons_succ]
  refine wpAnyR_step 7 rfl (by kernel_rfl) (fun K hK => ?_)
  go_simp
  go_at_call 20
  refine (HZ8.out _ HC.out).mono ?_
  rintro r wq ⟨rfl, hbc⟩
  have HC' := Lib.hid (HC.out.trans (hbc.mono HC.out.size))
  clear HC hbc
  have HC := HC'
  clear HC'
  go_wp2_with fail
  refine hK.out _ _ (HE8.out _ HC.out) (fun hHeld => ?_)
  clear hK K
  try simp only [Act.put, List.setIfInBounds_toArray, List.set_cons_zero, List.set_cons_succ]
  refine wpAnyR_take 8 rfl (by kernel_rfl) (by kernel_rfl) (by kernel_rfl) (by kernel_rfl) (fun _ _ _ h => h) (by rfl) (v := ?_) ?_ (by assumption) ?_
  rotate_left
  focus
    intro wS hSw
    (try dsimp only at hSw)
    go_simp
    (try simp only [hSw])
    try with_reducible rfl
  intro hHeld
  try simp only [Act.put, List.setIfInBounds_toArray, List.set_cons_zero, List.set_cons_succ]
  refine wpAnyR_take 9 rfl (by kernel_rfl) (by kernel_rfl) (by kernel_rfl) (by kernel_rfl) (fun _ _ _ h => h) (by rfl) (v := ?_) ?_ (by assumption) ?_
  rotate_left
  focus
    intro wS hSw
    (try dsimp only at hSw)
    go_simp
    (try simp only [hSw])
    try with_reducible rfl
  intro hHeld
  try simp only [Act.put, List.setIfInBounds_toArray, List.set_cons_zero, List.set_cons_succ]
  refine wpAnyR_take 10 rfl (by kernel_rfl) (by kernel_rfl) (by kernel_rfl) (by kernel_rfl) (fun _ _ _ h => h) (by rfl) (v := ?_) ?_ (by assumption) ?_
  rotate_left
  focus
    intro wS hSw
    (try dsimp only at hSw)
    go_simp
    (try simp only [hSw])
    try with_reducible rfl
  intro hHeld
  try simp only [Act.put, List.setIfInBounds_toArray, List.set_cons_zero, List.set_cons_succ]
  refine wpAnyR_take 11 rfl (by kernel_rfl) (by kernel_rfl) (by kernel_rfl) (by kernel_rfl) (fun _ _ _ h => h) (by rfl) (v := ?_) ?_ (by assumption) ?_
  rotate_left
  focus
    intro wS hSw
    (try dsimp only at hSw)
    go_simp
    (try simp only [hSw])
    try with_reducible rfl
  intro hHeld
  try simp only [Act.put, List.setIfInBounds_toArray, List.set_cons_zero, List.set_cons_succ]
  refine wpAnyR_take 12 rfl (by kernel_rfl) (by kernel_rfl) (by kernel_rfl) (by kernel_rfl) (fun _ _ _ h => h) (by rfl) (v := ?_) ?_ (by assumption) ?_
  rotate_left
  focus
    intro wS hSw
    (try dsimp only at hSw)
    go_simp
    (try simp only [hSw])
    try with_reducible rfl
  intro hHeld
  try simp only [Act.put, List.setIfInBounds_toArray, List.set_cons_zero, List.set_cons_succ]
  refine wpAnyR_take 14 rfl (by kernel_rfl) (by kernel_rfl) (by kernel_rfl) (by kernel_rfl) (fun _ _ _ h => h) (by rfl) (v := ?_) ?_ (by assumption) ?_
  rotate_left
  focus
    intro wS hSw
    (try dsimp only at hSw)
    go_simp
    (try simp only [hSw])
    try with_reducible rfl
  intro hHeld
  try simp only [Act.put, List.setIfInBounds_toArray, List.set_cons_zero, List.set_cons_succ]
  refine wpAnyR_take 15 rfl (by kernel_rfl) (by kernel_rfl) (by kernel_rfl) (by kernel_rfl) (fun _ _ _ h => h) (by rfl) (v := ?_) ?_ (by assumption) ?_
  rotate_left
  focus
    intro wS hSw
    (try dsimp only at hSw)
    go_simp
    (try simp only [hSw])
    try with_reducible rfl
  intro hHeld
  try simp only [Act.put, List.setIfInBounds_toArray, List.set_cons_zero, List.set_cons_succ]
  refine wpAnyR_step 13 rfl (by kernel_rfl) (fun K hK => ?_)
  go_simp
  go_at_call 20
  refine (HSP8.out _ HC.out).mono ?_
  rintro r wq ⟨rfl, hbc⟩
  have HC' := Lib.hid (HC.out.trans (hbc.mono HC.out.size))
  clear HC hbc
  have HC := HC'
  clear HC'
  go_wp2_with fail
  refine hK.out _ _ (HE8.out _ HC.out) (fun hHeld => ?_)
  clear hK K
  try simp only [Act.put, List.setIfInBounds_toArray, List.set_cons_zero, List.set_cons_succ]
  refine wpAnyR_step 16 rfl (by kernel_rfl) (fun K hK => ?_)
  go_simp
  go_at_call 34
  refine (HSR8.out _ HC.out).mono ?_
  rintro r wq ⟨rfl, hbc⟩
  have HC' := Lib.hid (HC.out.trans (hbc.mono HC.out.size))
  clear HC hbc
  have HC := HC'
  clear HC'
  go_wp2_with fail
  refine hK.out _ _ (HE8.out _ HC.out) (fun hHeld => ?_)
  clear hK K
  try simp only [Act.put, List.setIfInBounds_toArray, List.set_cons_zero, List.set_cons_succ]
  refine wpAnyR_take 17 rfl (by kernel_rfl) (by kernel_rfl) (by kernel_rfl) (by kernel_rfl) (fun _ _ _ h => h) (by rfl) (v := ?_) ?_ (by assumption) ?_
  rotate_left
  focus
    intro wS hSw
    (try dsimp only at hSw)
    go_simp
    (try simp only [hSw])
    try with_reducible rfl
  intro hHeld
  try simp only [Act.put, List.setIfInBounds_toArray, List.set_cons_zero, List.set_cons_succ]
  refine wpAnyR_take 18 rfl (by kernel_rfl) (by kernel_rfl) (by kernel_rfl) (by kernel_rfl) (fun _ _ _ h => h) (by rfl) (v := ?_) ?_ (by assumption) ?_
  rotate_left
  focus
    intro wS hSw
    (try dsimp only at hSw)
    go_simp
    (try simp only [hSw])
    try with_reducible rfl
  intro hHeld
  try simp only [Act.put, List.setIfInBounds_toArray, List.set_cons_zero, List.set_cons_succ]
  refine wpAnyR_take 19 rfl (by kernel_rfl) (by kernel_rfl) (by kernel_rfl) (by kernel_rfl) (fun _ _ _ h => h) (by rfl) (v := ?_) ?_ (by assumption) ?_
  rotate_left
  focus
    intro wS hSw
    (try dsimp only at hSw)
    go_simp
    (try simp only [hSw])
    try with_reducible rfl
  intro hHeld
  try simp only [Act.put, List.setIfInBounds_toArray, List.set_cons_zero, List.set_cons_succ]
  refine wpAnyR_take 20 rfl (by kernel_rfl) (by kernel_rfl) (by kernel_rfl) (by kernel_rfl) (fun _ _ _ h => h) (by rfl) (v := ?_) ?_ (by assumption) ?_
  rotate_left
  focus
    intro wS hSw
    (try dsimp only at hSw)
    go_simp
    (try simp only [hSw])
    try with_reducible rfl
  intro hHeld
  try simp only [Act.put, List.setIfInBounds_toArray, List.set_cons_zero, List.set_cons_succ]
  refine wpAnyR_take 21 rfl (by kernel_rfl) (by kernel_rfl) (by kernel_rfl) (by kernel_rfl) (fun _ _ _ h => h) (by rfl) (v := ?_) ?_ (by assumption) ?_
  rotate_left
  focus
    intro wS hSw
    (try dsimp only at hSw)
    go_simp
    (try simp only [hSw])
    try with_reducible rfl
  intro hHeld
  try simp only [Act.put, List.setIfInBounds_toArray, List.set_cons_zero, List.set_cons_succ]
  refine wpAnyR_take 23 rfl (by kernel_rfl) (by kernel_rfl) (by kernel_rfl) (by kernel_rfl) (fun _ _ _ h => h) (by rfl) (v := ?_) ?_ (by assumption) ?_
  rotate_left
  focus
    intro wS hSw
    (try dsimp only at hSw)
    go_simp
    (try simp only [hSw])
    try with_reducible rfl
  intro hHeld
  try simp only [Act.put, List.setIfInBounds_toArray, List.set_cons_zero, List.set_cons_succ]
  refine wpAnyR_take 24 rfl (by kernel_rfl) (by kernel_rfl) (by kernel_rfl) (by kernel_rfl) (fun _ _ _ h => h) (by rfl) (v := ?_) ?_ (by assumption) ?_
  rotate_left
  focus
    intro wS hSw
    (try dsimp only at hSw)
    go_simp
    (try simp only [hSw])
    try with_reducible rfl
  intro hHeld
  try simp only [Act.put, List.setIfInBounds_toArray, List.set_cons_zero, List.set_cons_succ]
  refine wpAnyR_step 22 rfl (by kernel_rfl) (fun K hK => ?_)
  go_simp
  go_at_call 20
  refine (HSQ8.out _ HC.out).mono ?_
  rintro r wq ⟨rfl, hbc⟩
  have HC' := Lib.hid (HC.out.trans (hbc.mono HC.out.size))
  clear HC hbc
  have HC := HC'
  clear HC'
  go_wp2_with fail
  refine hK.out _ _ (HE8.out _ HC.out) (fun hHeld => ?_)
  clear hK K
  try simp only [Act.put, List.setIfInBounds_toArray, List.set_cons_zero, List.set_cons_succ]
  refine wpAnyR_step 25 rfl (by kernel_rfl) (fun K hK => ?_)
  go_simp
  go_at_call 20
  refine (HSP8.out _ HC.out).mono ?_
  rintro r wq ⟨rfl, hbc⟩
  have HC' := Lib.hid (HC.out.trans (hbc.mono HC.out.size))
  clear HC hbc
  have HC := HC'
  clear HC'
  go_wp2_with fail
  refine hK.out _ _ (HE8.out _ HC.out) (fun hHeld => ?_)
  clear hK K
  try simp only [Act.put, List.setIfInBounds_toArray, List.set_cons_zero, List.set_cons_succ]
  refine wpAnyR_take 26 rfl (by kernel_rfl) (by kernel_rfl) (by kernel_rfl) (by kernel_rfl) (fun _ _ _ h => h) (by rfl) (v := ?_) ?_ (by assumption) ?_
  rotate_left
  focus
    intro wS hSw
    (try dsimp only at hSw)
    go_simp
    (try simp only [hSw])
    try with_reducible rfl
  intro hHeld
  try simp only [Act.put, List.setIfInBounds_toArray, List.set_cons_zero, List.set_cons_succ]
  refine wpAnyR_take 27 rfl (by kernel_rfl) (by kernel_rfl) (by kernel_rfl) (by kernel_rfl) (fun _ _ _ h => h) (by rfl) (v := ?_) ?_ (by assumption) ?_
  rotate_left
  focus
    intro wS hSw
    (try dsimp only at hSw)
    go_simp
    (try simp only [hSw])
    try with_reducible rfl
  intro hHeld
  try simp only [Act.put, List.setIfInBounds_toArray, List.set_cons_zero, List.set_cons_succ]
  refine wpAnyR_done (by kernel_rfl) ?_
  refine NoPanic.normal ?_
  obtain ⟨q0, q1, q2, q3, q4, p0, p1, p2, p3, p4, g0, g1, g2, g3, g4⟩ := hHeld
  have HCR := Lib.hid (copyC _ x (Nat.le_refl _) HWX.out.2.2 (fun g => g < w.heap.size) wq _ _ _ _ _ (HX.out wq (HBW.out wq (HB2.out wq HC.out))) (fun g hg => Nat.lt_of_lt_of_le hg (HBW.out wq (HB2.out wq HC.out)).size))
  clear HSP8 HSQ8 HSR8 HY8 HZ8
  go_upto_region 9 with (go_at_call 29; (with_reducible refine HCR.out.mono ?_); (rintro r w9 ⟨e0, e1, e2, e3, e4, rfl, he, hb9⟩); (obtain ⟨ke, ne, EB, mE, cE, EL, mF, cF, ED, mG, cG, rfl, rfl, rfl, rfl, rfl⟩ := he.form); have HE := Lib.hid he; have HB9 := Lib.hid hb9; clear he hb9)
  have hb10 := (Below.refl w9.heap.size w9).alloc (Nat.le_refl _) (.cells #[.int .i64 ke, .int .i64 ne, .slice EB mE cE, .slice EL mF cF, .slice ED mG cG] 27)
  have hn10 := heap_alloc_new w9 (.cells #[.int .i64 ke, .int .i64 ne, .slice EB mE cE, .slice EL mF cF, .slice ED mG cG] 27)
  have hs10 : (w9.alloc (.cells #[.int .i64 ke, .int .i64 ne, .slice EB mE cE, .slice EL mF cF, .slice ED mG cG] 27)).heap.size = w9.heap.size + 1 := by simp
  obtain ⟨W10, hW10⟩ : ∃ W10, w9.alloc (.cells #[.int .i64 ke, .int .i64 ne, .slice EB mE cE, .slice EL mF cF, .slice ED mG cG] 27) = W10 := ⟨_, rfl⟩
  rw [hW10] at hb10 hn10 hs10 ⊢
  have hs8 := HS8.out
  have h98 : Below W8.heap.size W8 w9 := HC.out.trans (HB9.out.mono HC.out.size)
  have h108 : Below W8.heap.size W8 W10 := h98.trans (hb10.mono h98.size)
  have hw6 : w.heap.size + 2 ≤ w6.heap.size := by have := HBA.out.size; have := HS2.out; omega
  have h67 := HB7.out.size
  have h89 := h98.size
  have h9q := HB9.out.size
  have h8q := HC.out.size
  have HK10 : Hid (∀ g, g < w7.heap.size → W10.heap[g]? = w7.heap[g]?) := Lib.hid (fun g hg => by
    have e1 := h108.block g (by omega)
    have e2 := (HB7.out.block g)
    rw [e1]
    exact HB8.out g hg)
  have HZE : Hid (∀ W, Zn w6.heap.size w7.heap.size W10 W → (W.cell? ⟨w.heap.size, 0, none⟩ = some (.int .i64 k9) ∧ W.cell? ⟨w.heap.size, 1, none⟩ = some (.int .i64 n9) ∧ W.cell? ⟨w.heap.size, 2, none⟩ = some (.slice A29 m29 c29) ∧ W.cell? ⟨w.heap.size, 3, none⟩ = some (.slice A39 m39 c39) ∧ W.cell? ⟨w.heap.size, 4, none⟩ = some (.slice A49 m49 c49)) ∧ (W.cell? ⟨w7.heap.size, 2, none⟩ = some (.slice AB mB cB) ∧ W.cell? ⟨w7.heap.size, 3, none⟩ = some (.slice AL mL cL) ∧ W.cell? ⟨w7.heap.size, 4, none⟩ = some (.slice AD mD cD)) ∧ (W.cell? ⟨w9.heap.size, 0, none⟩ = some (.int .i64 ke) ∧ W.cell? ⟨w9.heap.size, 1, none⟩ = some (.int .i64 ne) ∧ W.cell? ⟨w9.heap.size, 2, none⟩ = some (.slice EB mE cE) ∧ W.cell? ⟨w9.heap.size, 3, none⟩ = some (.slice EL mF cF) ∧ W.cell? ⟨w9.heap.size, 4, none⟩ = some (.slice ED mG cG)) ∧ Below w.heap.size w W) := Lib.hid (fun W hW => by
    obtain ⟨q0, q1, q2, q3, q4, -, -, -, -, -, g0, g1, g2, g3, g4⟩ := HE8.out W10 h108
    have e := fun j => World.cell?_of_block (a := ⟨w.heap.size, j, none⟩) (hW.block w.heap.size (.inl (by omega)))
    have f := fun j => World.cell?_of_block (a := ⟨w7.heap.size, j, none⟩) (hW.block w7.heap.size (.inr (by omega)))
    have h := (hW.block w9.heap.size (.inr (by omega))).trans hn10
    exact ⟨⟨(e _).trans q0, (e _).trans q1, (e _).trans q2, (e _).trans q3, (e _).trans q4⟩, ⟨(f _).trans g2, (f _).trans g3, (f _).trans g4⟩, ⟨cell_of_row _ _ 0 _ _ (0, 0) h, cell_of_row _ _ 1 _ _ (0, 0) h, cell_of_row _ _ 2 _ _ (0, 0) h, cell_of_row _ _ 3 _ _ (0, 0) h, cell_of_row _ _ 4 _ _ (0, 0) h⟩, (HBW.out W10 (HB2.out W10 h108)).trans (hW.below (by omega))⟩)
  have HYE : Hid (∀ W, Zn w6.heap.size w7.heap.size W10 W → Calls Try.prog 34 #[.agg #[.int .i64 k9, .int .i64 n9, .slice A29 m29 c29, .slice A39 m39 c39, .slice A49 m49 c49], .agg #[.int .i64 ke, .int .i64 ne, .slice EB mE cE, .slice EL mF cF, .slice ED mG cG]] W fun r w' => r = .returned (.bool true) ∧ Below W.heap.size W w') := Lib.hid (fun W hW => by
    have hbw := (HZE.out W hW).2.2.2
    refine same_yes x W (ObR.keep (fun _ _ => rfl) (fun g hg => Nat.lt_of_lt_of_le hg hbw.size) _ (HX.out W hbw)) (ObR.keep (fun g hg => ?_) (fun g hg => ?_) _ HE.out)
    · exact (hW.block g (.inr (by omega))).trans (hb10.block g hg.2)
    · have := hW.size; omega)
  have HSZ := Lib.hid (And.intro hw6 (And.intro h67 (And.intro h89 (And.intro h9q (And.intro h8q (And.intro hs8 hs10))))))
  clear hb10 hn10 hs10 hW10 h98 h108 hw6 h67 h89 h9q h8q hs8 q0 q1 q2 q3 q4 p0 p1 p2 p3 p4 g0 g1 g2 g3 g4
  obtain ⟨kx, nx, bx, lx, dx⟩ := x
  have hd := HD.out
  unfold ObR at hd
  obtain ⟨-, -, -, -, ⟨A2', m2', c2', e2, hB⟩, ⟨A3', c3', e3, h3, hl⟩, ⟨A4', c4', e4, h4, hdd⟩⟩ := hd
  injection e2 with e21 e22 e23
  injection e3 with e31 e32 e33
  injection e4 with e41 e42 e43
  subst e21 e22 e23 e31 e33 e41 e43
  rw [← e32] at h3 hl
  rw [← e42] at h4 hdd
  have hwx := HWX.out.1
  unfold wdO at hwx
  have hbl : mB ≤ 100000000 := by rw [← hB.1]; exact hwx.1
  have hll : mL ≤ 60 ∧ mD ≤ 60 := by have := hwx.2.1; omega
  have HBB := Lib.hid hB
  have HLL := Lib.hid hl
  have HDD := Lib.hid hdd
  have HEL := Lib.hid (And.intro e32 e42)
  have HZ0 : Hid (Zn w6.heap.size w7.heap.size W10 W10) := Lib.hid Zn.refl
  have HB0 : Hid (∀ g o, AB = some ⟨g, o, none⟩ → ∀ j, 0 ≤ j → j < mB → W10.cell? ⟨g, o + j, none⟩ = some (.int .u8 (bx.getD j 0))) := Lib.hid (fun g o e j _ hj => by
    obtain ⟨g', o', e', hg', hc⟩ := HBB.out.2.2.2 (by omega)
    rw [e] at e'
    injection e' with e'
    injection e' with e1' e2'
    subst e1' e2'
    rw [World.cell?_of_block (a := ⟨g, o + j, none⟩) (HK10.out g hg'.2.1)]
    exact hc j hj)
  clear hB hl hdd e32 e42 hwx HD HB7 HX HHX HY HHY HD8 HN8 HE8 HB2 HCR HC HB HBA
  obtain ⟨-, ⟨g2, g3, g4⟩, -, -⟩ := HZE.out W10 HZ0.out
  go_wp2_with fail
  go_loopw [7] (fun iv wr => ∃ (i : Nat), i ≤ mB ∧ iv = .int .i64 i ∧ Hid (Zn w6.heap.size w7.heap.size W10 wr) ∧ Hid (∀ g o, AB = some ⟨g, o, none⟩ → ∀ j, i ≤ j → j < mB → wr.cell? ⟨g, o + j, none⟩ = some (.int .u8 (bx.getD j 0)))) (fun iv _ => mB - (intOf iv).toNat)
  case atStart => exact ⟨0, Nat.zero_le _, rfl, HZ0, HB0⟩
  case round =>
    clear HZ0 HB0 g2 g3 g4
    obtain ⟨i, hi, rfl, HZ, HBJ⟩ := hrel
    obtain ⟨-, ⟨g2, g3, g4⟩, -, -⟩ := HZE.out wr HZ.out
    by_cases hlt : i < mB
    · obtain ⟨g, o, rfl, ⟨hg1, hg2, hfz⟩, -⟩ := HBB.out.2.2.2 (by omega)
      have cl := HBJ.out g o rfl i (Nat.le_refl _) hlt
      have fz : wr.frozen? ⟨g, o + i, none⟩ = false := (HZ.out.fz g (o + i)).trans ((frozen_blk (HK10.out g hg2)).trans (hfz _))
      obtain ⟨z, hz⟩ : ∃ z, bx.getD i 0 = z := ⟨_, rfl⟩
      rw [hz] at cl
      have HG := Lib.hid (And.intro hg1 hg2)
      have hli : (i : Int) < mB := by omega
      have hmi : (mB : Int) ≤ 100000000 := by omega
      clear hg1 hg2 hfz hz
      go_wp2_with fail
      go_roundw
      case rel => exact ⟨i + 1, by omega, by go_num, Lib.hid (HZ.out.set HG.out _ _), Lib.hid (fun g' o' e j h1 h2 => by
        injection e with e
        injection e with e1 e2
        subst e1 e2
        exact (World.cell?_setCell_other _ _ _ _ (fun e => by injection e with _ e; omega)).trans (HBJ.out g o rfl j (by omega) h2))⟩
      case measure => simp [intOf]; omega
    · obtain rfl : mB = i := by omega
      clear HBJ hlt
      go_wp2_with fail
      go_loopw [8] (fun iv wr => ∃ (i : Nat), i ≤ mL ∧ iv = .int .i64 i ∧ Hid (Zn w6.heap.size w7.heap.size W10 wr)) (fun iv _ => mL - (intOf iv).toNat)
      case atStart => exact ⟨0, Nat.zero_le _, rfl, HZ⟩
      case round =>
        clear HZ g2 g3 g4
        obtain ⟨i, hi2, rfl, HZ⟩ := hrel
        obtain ⟨-, ⟨g2, g3, g4⟩, -, -⟩ := HZE.out wr HZ.out
        by_cases hlt : i < mL
        · obtain ⟨y', hy'⟩ := lx.get_some i (by rw [← HEL.out.1]; exact hlt)
          obtain ⟨g, o, rfl, ⟨hg1, hg2, hfz⟩, hob⟩ := HLL.out (by omega)
          obtain ⟨d0, d1, d2, d3, d4, k0, k1, k2, k3, k4, -⟩ := hob.get lx g o i y' hy'
          have e := fun j => World.cell?_of_block (a := ⟨g, j, none⟩) (HK10.out g hg2)
          obtain ⟨z0, c0⟩ := HZ.out.pres g _ ⟨_, (e _).trans k0⟩
          obtain ⟨z1, c1⟩ := HZ.out.pres g _ ⟨_, (e _).trans k1⟩
          obtain ⟨z2, c2⟩ := HZ.out.pres g _ ⟨_, (e _).trans k2⟩
          obtain ⟨z3, c3⟩ := HZ.out.pres g _ ⟨_, (e _).trans k3⟩
          obtain ⟨z4, c4⟩ := HZ.out.pres g _ ⟨_, (e _).trans k4⟩
          have fz : ∀ j, wr.frozen? ⟨g, j, none⟩ = false := fun j => (HZ.out.fz g j).trans ((frozen_blk (HK10.out g hg2)).trans (hfz _))
          have HG := Lib.hid (And.intro hg1 hg2)
          have hli : (i : Int) < mL := by omega
          have hmi : (mL : Int) ≤ 100000000 := by omega
          clear hg1 hg2 hfz hob hy' k0 k1 k2 k3 k4 e
          go_wp2_with fail
          go_roundw
          case rel => exact ⟨i + 1, by omega, by go_num, Lib.hid (HZ.out.set5 HG.out _ _ _ _ _ _ _ _ _ _)⟩
          case measure => simp [intOf]; omega
        · obtain rfl : mL = i := by omega
          clear hlt
          go_wp2_with fail
          go_loopw [9] (fun iv wr => ∃ (i : Nat), i ≤ mD ∧ iv = .int .i64 i ∧ Hid (Zn w6.heap.size w7.heap.size W10 wr)) (fun iv _ => mD - (intOf iv).toNat)
          case atStart => exact ⟨0, Nat.zero_le _, rfl, HZ⟩
          case round =>
            clear HZ g2 g3 g4
            obtain ⟨i, hi3, rfl, HZ⟩ := hrel
            obtain ⟨⟨q0, q1, q2, q3, q4⟩, ⟨g2, g3, g4⟩, ⟨t0, t1, t2, t3, t4⟩, hbe⟩ := HZE.out wr HZ.out
            have HBE := Lib.hid hbe
            clear hbe
            by_cases hlt : i < mD
            · obtain ⟨s', y', hy'⟩ := dx.get_some i (by rw [← HEL.out.2]; exact hlt)
              obtain ⟨g, o, rfl, ⟨hg1, hg2, hfz⟩, hob⟩ := HDD.out (by omega)
              obtain ⟨d0, d1, d2, d3, d4, ks, k0, k1, k2, k3, k4, -⟩ := hob.get dx g o i s' y' hy'
              have e := fun j => World.cell?_of_block (a := ⟨g, j, none⟩) (HK10.out g hg2)
              obtain ⟨zs, cs⟩ := HZ.out.pres g _ ⟨_, (e _).trans ks⟩
              obtain ⟨z0, c0⟩ := HZ.out.pres g _ ⟨_, (e _).trans k0⟩
              obtain ⟨z1, c1⟩ := HZ.out.pres g _ ⟨_, (e _).trans k1⟩
              obtain ⟨z2, c2⟩ := HZ.out.pres g _ ⟨_, (e _).trans k2⟩
              obtain ⟨z3, c3⟩ := HZ.out.pres g _ ⟨_, (e _).trans k3⟩
              obtain ⟨z4, c4⟩ := HZ.out.pres g _ ⟨_, (e _).trans k4⟩
              have fz : ∀ j, wr.frozen? ⟨g, j, none⟩ = false := fun j => (HZ.out.fz g j).trans ((frozen_blk (HK10.out g hg2)).trans (hfz _))
              have HG := Lib.hid (And.intro hg1 hg2)
              have hli : (i : Int) < mD := by omega
              have hmi : (mD : Int) ≤ 100000000 := by omega
              clear hg1 hg2 hfz hob hy' ks k0 k1 k2 k3 k4 e q0 q1 q2 q3 q4 t0 t1 t2 t3 t4
              go_wp2_with fail
              go_roundw
              case rel => exact ⟨i + 1, by omega, by go_num, Lib.hid ((HZ.out.set5 HG.out _ _ _ _ _ _ _ _ _ _).set HG.out _ _)⟩
              case measure => simp [intOf]; omega
            · obtain rfl : mD = i := by omega
              have HYF := Lib.hid (HYE.out wr HZ.out)
              clear hlt
              go_wp2_with (go_at_call 34; (with_reducible refine HYF.out.mono ?_); (rintro r wz ⟨rfl, hbz⟩); have HBZ := Lib.hid hbz; clear hbz)
              go_ret
              exact ⟨rfl, HBE.out.trans (HBZ.out.mono HBE.out.size)⟩
set_option maxRecDepth 100000 in
theorem csame_lifted (os : Os) (started : os.Started) (H : Type) (enc : TypeId × Value → H) :
    ReturnsInHanded {} Try.checked os 6 .any (Rows.cosSameSpec.pre6 enc Try.prog Try.f6 Rows.cosSameRow.domain false) (Rows.cosSameSpec.post enc Try.prog Try.f6 false true false false) := by
  refine returnsInHanded_of_change (C := Try.checked) own started (by kernel_rfl) Try.func6
    (ChangeSpec.witness6 (enc := enc) (C := Try.checked) false ⟨#[], #[.agg #[.int .i64 0, .int .i64 0, .slice none 0 0, .slice none 0 0, .slice none 0 0], .agg #[.int .i64 0, .int .i64 0, .slice none 0 0, .slice none 0 0, .slice none 0 0]], []⟩ 8 (by kernel_rfl) (by kernel_rfl) (by kernel_rfl) (by kernel_rfl)) ?_
  intro W base args ds gs before hval0 hW hcnd _
  have hval : ∀ (j : Nat) t v, Try.f6.params[j]? = some t → args[j]? = some v → Value.okWide Try.prog W .any base t v := hval0
  have hW' := hW
  obtain ⟨p, q, hA0, hV, rfl, hfz, hnd⟩ := hW
  have hA : DataW.TrodAll enc Try.prog W 0 (fun _ => true) true Try.f6.params.toList args.toList ds p := hA0
  rw [Try.params6] at hA hval
  obtain ⟨v0, vs0, d0, ds0, p0, q0, hargs, rfl, rfl, h0, r0⟩ := trodAll_cons hA
  obtain ⟨v1, vs1, d1, ds1, p1, q1, rfl, rfl, rfl, h1, r1⟩ := trodAll_cons r0
  obtain ⟨rfl, rfl, rfl⟩ := trodAll_nil r1
  obtain rfl : args = #[v0, v1] := by cases args; simp_all
  obtain ⟨rfl, rfl⟩ := trodVars_none hV
  obtain ⟨cs0, rfl, hcs0⟩ := okWide_struct Try.underlying27 (hval 0 27 v0 rfl rfl)
  obtain ⟨x0, c00, c01, c02, c03, c04, rfl, ob0⟩ := open_obj h0 (fun _ => rfl)
  have lt0 : ∀ x ∈ p0, x.block < W.heap.size := by obtain ⟨m, hm⟩ := h0; exact DataW.trod_lt m _ _ _ hm
  obtain ⟨cs1, rfl, hcs1⟩ := okWide_struct Try.underlying27 (hval 1 27 v1 rfl rfl)
  obtain ⟨x1, c10, c11, c12, c13, c14, rfl, ob1⟩ := open_obj h1 (fun _ => rfl)
  have lt1 : ∀ x ∈ p1, x.block < W.heap.size := by obtain ⟨m, hm⟩ := h1; exact DataW.trod_lt m _ _ _ hm
  have hmx : maxLen = 9223372036854775807 := by decide
  clear hA0 hval0
  refine (csame_walk x0 c00 c01 c02 c03 c04 x1 c10 c11 c12 c13 c14 W ob0 ob1).mono fun e W' ⟨he, bel⟩ => ?_
  subst he
  exact ⟨_, rfl, _, _, _, [], _, [], hW', trodAll_mk1 (shut_bool Try.underlying4 _), (trodAll_cons_mk (Below.trod laidOut (by kernel_rfl) (of_decide_eq_true (by kernel_rfl)) h0 bel lt0) (trodAll_cons_mk (Below.trod laidOut (by kernel_rfl) (of_decide_eq_true (by kernel_rfl)) h1 bel lt1) trodAll_mk0)), rfl, bel.frame _, fun h => by cases h⟩
/-- CosSame: it answers true. -/
theorem csame_holds : Rows.CosSameSaid :=
  OpenClaim.holds_of_wide 6 Try.f6 rfl rfl rfl rfl rfl rfl rfl ⟨rfl, rfl, rfl, rfl, rfl⟩ rfl rfl rfl rfl rfl (by kernel_rfl) Try.func6 (by kernel_rfl)
    (of_decide_eq_true (by kernel_rfl)) (by unfold Func.isWrapper; first | (rw [if_pos (by decide +kernel)]; kernel_rfl) | (rw [if_neg (by decide +kernel)]; exact ⟨rfl, rfl⟩))
    (fun os started H enc _ => csame_lifted os started H enc)
#print axioms csame_holds
end Go.Proofs.Ytdkmomdioiipjaa
