/- PrintUnlike: two objects that may be have the same bytes just if they are the same. Where what comes in is small. -/
import Derived.Test.YtliieeagbpmcgaaDoorPu48
import Derived.Test.YtliieeagbpmcgaaDoorPu50
import Derived.Test.YtliieeagbpmcgaaDoorPu51
namespace Go.Proofs.YtliieeagbpmcgaaDoor
open Go.ChangeShapes Go.WideShapes Go.ChangeAt Go.RowKit Go.Deep
set_option linter.unusedVariables false
set_option maxRecDepth 100000
/-- What Value answers: bytes, or none and 1. -/
def VlP (w : World) (R : List Int) (E : Int) (r : Ending) (w' : World) : Prop := ∃ A c, r = .returned (.tuple #[.slice A R.length c, .int .i64 E]) ∧ Byt w' w'.heap.size A R.length c R ∧ Below w.heap.size w w'
theorem pVl {x : Ob} {w : World} {c0 c1 c2 c3 c4 : Value} (hx : ObR w (fun g => g < w.heap.size) x c0 c1 c2 c3 c4) (ht : Tab w) (hok : okO x) (hht : htO x ≤ 100000000) (hl : mayO x 28 = true → (prO x).length ≤ 10000000000000) :
    Calls Tryd.prog 6 #[.agg #[c0, c1, c2, c3, c4]] w (VlP w (if mayO x 28 = true ∧ x.kind ≠ 8 then prO x else []) (if mayO x 28 = true ∧ x.kind ≠ 8 then 0 else 1)) := by
  by_cases h : mayO x 28 = true ∧ x.kind ≠ 8
  · rw [if_pos h, if_pos h]
    refine (pVal_yes hx ht hok hht h.1 h.2 (hl h.1)).mono ?_
    rintro r w' ⟨v, rfl, hm, hb⟩
    obtain ⟨A, c, rfl, hy⟩ := hm.byt
    exact ⟨A, c, rfl, hy, hb⟩
  · rw [if_neg h, if_neg h]
    refine (pVal_no hx hok hht h).mono ?_
    rintro r w' ⟨rfl, hb⟩
    exact ⟨none, 0, rfl, Byt.none_ _ _, hb⟩
theorem byt_S13 {w : World} {B n c : Nat} {A : Option Addr} {zs : List Int} (h : Byt w B A n c zs) (hn : n ≤ 9223372036854775807) : BytS w (fun g => g < B) A n c zs :=
  ⟨h.len, ⟨h.cap, hn⟩, h.rng, fun h0 => by
    obtain ⟨b, o, e, hlt, hc⟩ := h.cell h0
    exact ⟨b, o, e, hlt, hc⟩⟩
set_option maxHeartbeats 8000000 in
theorem unl_walk (x y : Ob) (a0 a1 a2 a3 a4 b0 b1 b2 b3 b4 : Value) (w : World) (ht : Tab w) (hx : ObR w (fun g => g < w.heap.size) x a0 a1 a2 a3 a4) (hy : ObR w (fun g => g < w.heap.size) y b0 b1 b2 b3 b4) (hbx : bkO x ≤ 100000000) (hby : bkO y ≤ 100000000) :
    Calls Tryd.prog 3 #[.agg #[a0, a1, a2, a3, a4], .agg #[b0, b1, b2, b3, b4]] w fun e w' => e = .returned (.bool true) ∧ Below w.heap.size w w' := by
  obtain ⟨k9, n9, A29, m29, c29, A39, m39, c39, A49, m49, c49, rfl, rfl, rfl, rfl, rfl⟩ := hx.form
  obtain ⟨k8, n8, A28, m28, c28, A38, m38, c38, A48, m48, c48, rfl, rfl, rfl, rfl, rfl⟩ := hy.form
  obtain ⟨hokx, hhtx, -, -, -⟩ := bkO_all x hbx
  obtain ⟨hoky, hhty, -, -, -⟩ := bkO_all y hby
  have hplx : mayO x 28 = true → (prO x).length ≤ 10000000000000 := fun h => by have := prO_len x 28 h; omega
  have hply : mayO y 28 = true → (prO y).length ≤ 10000000000000 := fun h => by have := prO_len y 28 h; omega
  have hb1 := (Below.refl w.heap.size w).alloc (Nat.le_refl _) (.cells #[.int .i64 k9, .int .i64 n9, .slice A29 m29 c29, .slice A39 m39 c39, .slice A49 m49 c49] 26)
  have hn1 := heap_alloc_new w (.cells #[.int .i64 k9, .int .i64 n9, .slice A29 m29 c29, .slice A39 m39 c39, .slice A49 m49 c49] 26)
  obtain ⟨W1, hW1⟩ : ∃ W1, w.alloc (.cells #[.int .i64 k9, .int .i64 n9, .slice A29 m29 c29, .slice A39 m39 c39, .slice A49 m49 c49] 26) = W1 := ⟨_, rfl⟩
  have hs1 : W1.heap.size = w.heap.size + 1 := by rw [← hW1]; simp
  rw [hW1] at hb1 hn1
  have hb2 := (Below.refl W1.heap.size W1).alloc (Nat.le_refl _) (.cells #[.int .i64 k8, .int .i64 n8, .slice A28 m28 c28, .slice A38 m38 c38, .slice A48 m48 c48] 26)
  have hn2 := heap_alloc_new W1 (.cells #[.int .i64 k8, .int .i64 n8, .slice A28 m28 c28, .slice A38 m38 c38, .slice A48 m48 c48] 26)
  obtain ⟨W2, hW2⟩ : ∃ W2, W1.alloc (.cells #[.int .i64 k8, .int .i64 n8, .slice A28 m28 c28, .slice A38 m38 c38, .slice A48 m48 c48] 26) = W2 := ⟨_, rfl⟩
  have hs2 : W2.heap.size = w.heap.size + 2 := by rw [← hW2]; simp; omega
  rw [hW2] at hb2 hn2
  rw [hs1] at hn2
  have hn3 := (hb2.block w.heap.size (by omega)).trans hn1
  have hbw : Below w.heap.size w W2 := hb1.trans (hb2.mono (by omega))
  have HX : Hid (∀ W, Below w.heap.size w W → ObR W (fun g => g < w.heap.size) x (.int .i64 k9) (.int .i64 n9) (.slice A29 m29 c29) (.slice A39 m39 c39) (.slice A49 m49 c49)) := Lib.hid (fun W hW => ObR.keep (fun g hg => hW.block g hg) (fun _ h => h) x hx)
  have HY : Hid (∀ W, Below w.heap.size w W → ObR W (fun g => g < w.heap.size) y (.int .i64 k8) (.int .i64 n8) (.slice A28 m28 c28) (.slice A38 m38 c38) (.slice A48 m48 c48)) := Lib.hid (fun W hW => ObR.keep (fun g hg => hW.block g hg) (fun _ h => h) y hy)
  have HX2 : Hid (∀ W, Below w.heap.size w W → ObR W (fun g => g < W.heap.size) x (.int .i64 k9) (.int .i64 n9) (.slice A29 m29 c29) (.slice A39 m39 c39) (.slice A49 m49 c49)) := Lib.hid (fun W hW => ObR.keep (fun g hg => hW.block g hg) (fun g hg => Nat.lt_of_lt_of_le hg hW.size) x hx)
  have HY2 : Hid (∀ W, Below w.heap.size w W → ObR W (fun g => g < W.heap.size) y (.int .i64 k8) (.int .i64 n8) (.slice A28 m28 c28) (.slice A38 m38 c38) (.slice A48 m48 c48)) := Lib.hid (fun W hW => ObR.keep (fun g hg => hW.block g hg) (fun g hg => Nat.lt_of_lt_of_le hg hW.size) y hy)
  have HBW : Hid (∀ W, Below W2.heap.size W2 W → Below w.heap.size w W) := Lib.hid (fun W hW => hbw.trans (hW.mono (by omega)))
  have HEL : Hid (∀ W, Below W2.heap.size W2 W → W.cell? ⟨w.heap.size, 0, none⟩ = some (.int .i64 k9) ∧ W.cell? ⟨w.heap.size, 1, none⟩ = some (.int .i64 n9) ∧ W.cell? ⟨w.heap.size, 2, none⟩ = some (.slice A29 m29 c29) ∧ W.cell? ⟨w.heap.size, 3, none⟩ = some (.slice A39 m39 c39) ∧ W.cell? ⟨w.heap.size, 4, none⟩ = some (.slice A49 m49 c49) ∧ W.cell? ⟨w.heap.size + 1, 0, none⟩ = some (.int .i64 k8) ∧ W.cell? ⟨w.heap.size + 1, 1, none⟩ = some (.int .i64 n8) ∧ W.cell? ⟨w.heap.size + 1, 2, none⟩ = some (.slice A28 m28 c28) ∧ W.cell? ⟨w.heap.size + 1, 3, none⟩ = some (.slice A38 m38 c38) ∧ W.cell? ⟨w.heap.size + 1, 4, none⟩ = some (.slice A48 m48 c48)) := Lib.hid (fun W hW => by
    have e1 := (hW.block w.heap.size (by omega)).trans hn3
    have e2 := (hW.block (w.heap.size + 1) (by omega)).trans hn2
    exact ⟨cell_of_row _ _ 0 _ _ (0, 0) e1, cell_of_row _ _ 1 _ _ (0, 0) e1, cell_of_row _ _ 2 _ _ (0, 0) e1, cell_of_row _ _ 3 _ _ (0, 0) e1, cell_of_row _ _ 4 _ _ (0, 0) e1, cell_of_row _ _ 0 _ _ (0, 0) e2, cell_of_row _ _ 1 _ _ (0, 0) e2, cell_of_row _ _ 2 _ _ (0, 0) e2, cell_of_row _ _ 3 _ _ (0, 0) e2, cell_of_row _ _ 4 _ _ (0, 0) e2⟩)
  have HAW := Lib.hid (awake13 W2 (ht.below hbw (Nat.le_refl _)))
  obtain ⟨RX, hRX⟩ : ∃ RX, roomO x 8 60 = RX := ⟨_, rfl⟩
  obtain ⟨RY, hRY⟩ : ∃ RY, roomO y 8 60 = RY := ⟨_, rfl⟩
  have HRX := Lib.hid (fun W (hW : Below W2.heap.size W2 W) => hRX ▸ roomC _ x (Nat.le_refl _) (fun g => g < w.heap.size) W _ _ _ _ _ 8 60 (HX.out W (HBW.out W hW)) (fun g hg => Nat.lt_of_lt_of_le hg (HBW.out W hW).size) (by omega))
  have HRY := Lib.hid (fun W (hW : Below W2.heap.size W2 W) => hRY ▸ roomC _ y (Nat.le_refl _) (fun g => g < w.heap.size) W _ _ _ _ _ 8 60 (HY.out W (HBW.out W hW)) (fun g hg => Nat.lt_of_lt_of_le hg (HBW.out W hW).size) (by omega))
  have HVX := Lib.hid (fun W (hW : Below W2.heap.size W2 W) => pVl (HX2.out W (HBW.out W hW)) (ht.below (HBW.out W hW) (Nat.le_refl _)) hokx (by omega) hplx)
  have HVY := Lib.hid (fun W (hW : Below W2.heap.size W2 W) => pVl (HY2.out W (HBW.out W hW)) (ht.below (HBW.out W hW) (Nat.le_refl _)) hoky (by omega) hply)
  have HSO := Lib.hid (fun W (hW : Below W2.heap.size W2 W) => sameOC _ x (Nat.le_refl _) y (fun g => g < w.heap.size) W _ _ _ _ _ _ _ _ _ _ (HX.out W (HBW.out W hW)) (HY.out W (HBW.out W hW)) (fun g hg => Nat.lt_of_lt_of_le hg (HBW.out W hW).size))
  have HG := Lib.hid (And.intro (rg_O x hx) (rg_O y hy))
  have HPL := Lib.hid (And.intro hplx hply)
  have HW1 := Lib.hid hW1
  have HW2 := Lib.hid hW2
  clear ht hx hy hbx hby hokx hhtx hoky hhty hplx hply hb1 hn1 hW1 hs1 hb2 hn2 hW2 hs2 hn3 hbw hRX hRY HX2 HY2
  go_enter Tryd.func3, Tryd.ntmps3
  go_upto_region 1 with fail
  rw [HW1.out, HW2.out]
  go_upto_region 3 with (go_at_call 4; (with_reducible refine HAW.out.mono ?_); (rintro r w0 ⟨rfl, hb0⟩); have HC := Lib.hid hb0; clear hb0)
  obtain ⟨q0, q1, q2, q3, q4, p0, p1, p2, p3, p4⟩ := HEL.out _ HC.out
  cases RX
  · go_wp2_with (go_at_call 5; (with_reducible refine (HRX.out _ HC.out).mono ?_); (rintro r w5 ⟨rfl, hb5⟩); have HC' := Lib.hid (HC.out.trans (hb5.mono HC.out.size)); clear HC hb5 q0 q1 q2 q3 q4 p0 p1 p2 p3 p4; have HC := HC'; clear HC'; (obtain ⟨q0, q1, q2, q3, q4, p0, p1, p2, p3, p4⟩ := HEL.out _ HC.out))
    go_ret
    exact ⟨rfl, HBW.out _ HC.out⟩
  cases RY
  · go_wp2_with (first
      | (go_at_call 5; (with_reducible refine (HRX.out _ HC.out).mono ?_); (rintro r w5 ⟨rfl, hb5⟩); have HC' := Lib.hid (HC.out.trans (hb5.mono HC.out.size)); clear HC hb5 q0 q1 q2 q3 q4 p0 p1 p2 p3 p4; have HC := HC'; clear HC'; (obtain ⟨q0, q1, q2, q3, q4, p0, p1, p2, p3, p4⟩ := HEL.out _ HC.out))
      | (go_at_call 5; (with_reducible refine (HRY.out _ HC.out).mono ?_); (rintro r w6 ⟨rfl, hb6⟩); have HC' := Lib.hid (HC.out.trans (hb6.mono HC.out.size)); clear HC hb6 q0 q1 q2 q3 q4 p0 p1 p2 p3 p4; have HC := HC'; clear HC'; (obtain ⟨q0, q1, q2, q3, q4, p0, p1, p2, p3, p4⟩ := HEL.out _ HC.out)))
    go_ret
    exact ⟨rfl, HBW.out _ HC.out⟩
  go_upto_region 5 with (first
    | (go_at_call 5; (with_reducible refine (HRX.out _ HC.out).mono ?_); (rintro r w5 ⟨rfl, hb5⟩); have HC' := Lib.hid (HC.out.trans (hb5.mono HC.out.size)); clear HC hb5 q0 q1 q2 q3 q4 p0 p1 p2 p3 p4; have HC := HC'; clear HC'; (obtain ⟨q0, q1, q2, q3, q4, p0, p1, p2, p3, p4⟩ := HEL.out _ HC.out))
    | (go_at_call 5; (with_reducible refine (HRY.out _ HC.out).mono ?_); (rintro r w6 ⟨rfl, hb6⟩); have HC' := Lib.hid (HC.out.trans (hb6.mono HC.out.size)); clear HC hb6 q0 q1 q2 q3 q4 p0 p1 p2 p3 p4; have HC := HC'; clear HC'; (obtain ⟨q0, q1, q2, q3, q4, p0, p1, p2, p3, p4⟩ := HEL.out _ HC.out)))
  by_cases hX : mayO x 28 = true ∧ x.kind ≠ 8
  case neg =>
    simp only [if_neg hX] at HVX
    go_upto_region 6 with (go_at_call 6; (with_reducible refine (HVX.out _ HC.out).mono ?_); (rintro r w7 ⟨A7, c7, rfl, hy7, hb7⟩); have HC' := Lib.hid (HC.out.trans (hb7.mono HC.out.size)); clear HC hb7 q0 q1 q2 q3 q4 p0 p1 p2 p3 p4; have HC := HC'; clear HC'; (obtain ⟨q0, q1, q2, q3, q4, p0, p1, p2, p3, p4⟩ := HEL.out _ HC.out))
    go_upto_region 7 with (go_at_call 6; (with_reducible refine (HVY.out _ HC.out).mono ?_); (rintro r w8 ⟨A8, c8, rfl, hy8, hb8⟩); have HC' := Lib.hid (HC.out.trans (hb8.mono HC.out.size)); clear HC hb8 q0 q1 q2 q3 q4 p0 p1 p2 p3 p4; have HC := HC'; clear HC')
    go_quiet (fail)
    go_wp2
    all_goals go_ret
    all_goals exact ⟨rfl, below_drewN (HBW.out _ HC.out) _⟩
  by_cases hY : mayO y 28 = true ∧ y.kind ≠ 8
  case neg =>
    simp only [if_pos hX] at HVX
    simp only [if_neg hY] at HVY
    go_upto_region 6 with (go_at_call 6; (with_reducible refine (HVX.out _ HC.out).mono ?_); (rintro r w7 ⟨A7, c7, rfl, hy7, hb7⟩); have HC' := Lib.hid (HC.out.trans (hb7.mono HC.out.size)); clear HC hb7 q0 q1 q2 q3 q4 p0 p1 p2 p3 p4; have HC := HC'; clear HC'; (obtain ⟨q0, q1, q2, q3, q4, p0, p1, p2, p3, p4⟩ := HEL.out _ HC.out))
    go_upto_region 7 with (go_at_call 6; (with_reducible refine (HVY.out _ HC.out).mono ?_); (rintro r w8 ⟨A8, c8, rfl, hy8, hb8⟩); have HC' := Lib.hid (HC.out.trans (hb8.mono HC.out.size)); clear HC hb8 q0 q1 q2 q3 q4 p0 p1 p2 p3 p4; have HC := HC'; clear HC')
    go_quiet (fail)
    go_wp2
    all_goals go_ret
    all_goals exact ⟨rfl, below_drewN (HBW.out _ HC.out) _⟩
  simp only [if_pos hX] at HVX
  simp only [if_pos hY] at HVY
  go_upto_region 6 with (go_at_call 6; (with_reducible refine (HVX.out _ HC.out).mono ?_); (rintro r w7 ⟨A7, c7, rfl, hy7, hb7⟩); have HY7 := Lib.hid hy7; clear hy7; have HC' := Lib.hid (HC.out.trans (hb7.mono HC.out.size)); clear HC hb7 q0 q1 q2 q3 q4 p0 p1 p2 p3 p4; have HC := HC'; clear HC'; (obtain ⟨q0, q1, q2, q3, q4, p0, p1, p2, p3, p4⟩ := HEL.out _ HC.out))
  go_upto_region 7 with (go_at_call 6; (with_reducible refine (HVY.out _ HC.out).mono ?_); (rintro r w8 ⟨A8, c8, rfl, hy8, hb8⟩); have HYY := Lib.hid (And.intro ((HY7.out.below hb8 (Nat.le_refl _)).more hb8.size) hy8); have HC' := Lib.hid (HC.out.trans (hb8.mono HC.out.size)); clear HC hb8 hy8 q0 q1 q2 q3 q4 p0 p1 p2 p3 p4; have HC := HC'; clear HC')
  have hun := unlike hX.1 hY.1 HG.out.1 HG.out.2 hX.2 hY.2 HYY.out.1.rng
  obtain ⟨SB, hSB⟩ : ∃ SB, sameO x y = SB := ⟨_, rfl⟩
  have HS1 : Hid (Calls Tryd.prog 7 #[.slice A7 (prO x).length c7, .slice A8 (prO y).length c8] w8.drew fun r w' => r = .returned (.bool SB) ∧ Below w8.drew.heap.size w8.drew w') := Lib.hid (by
    have h := sameC _ _ w8.drew A7 A8 _ c7 _ c8 _ _ (byt_S13 (HYY.out.1.drewN 1) (by have := HPL.out.1 hX.1; omega)) (byt_S13 (HYY.out.2.drewN 1) (by have := HPL.out.2 hY.1; omega))
    rw [hun, hSB] at h
    exact h.mono fun r w' ⟨h1, q, e⟩ => ⟨h1, e ▸ below_drewN (Below.refl _ _) q⟩)
  simp only [hSB] at HSO
  have HC' := Lib.hid HC.out.drew
  clear HC HRX HRY HAW HVX HVY HYY HY7 hun hX hY
  have HC := HC'
  clear HC'
  obtain ⟨LX, hLX⟩ : ∃ LX, (prO x).length = LX := ⟨_, rfl⟩
  obtain ⟨LY, hLY⟩ : ∃ LY, (prO y).length = LY := ⟨_, rfl⟩
  rw [hLX, hLY] at HS1 ⊢
  refine wp_region_heldR (fun W => W.cell? ⟨w.heap.size, 0, none⟩ = some (.int .i64 k9) ∧ W.cell? ⟨w.heap.size, 1, none⟩ = some (.int .i64 n9) ∧ W.cell? ⟨w.heap.size, 2, none⟩ = some (.slice A29 m29 c29) ∧ W.cell? ⟨w.heap.size, 3, none⟩ = some (.slice A39 m39 c39) ∧ W.cell? ⟨w.heap.size, 4, none⟩ = some (.slice A49 m49 c49) ∧ W.cell? ⟨w.heap.size + 1, 0, none⟩ = some (.int .i64 k8) ∧ W.cell? ⟨w.heap.size + 1, 1, none⟩ = some (.int .i64 n8) ∧ W.cell? ⟨w.heap.size + 1, 2, none⟩ = some (.slice A28 m28 c28) ∧ W.cell? ⟨w.heap.size + 1, 3, none⟩ = some (.slice A38 m38 c38) ∧ W.cell? ⟨w.heap.size + 1, 4, none⟩ = some (.slice A48 m48 c48)) 1000 (by kernel_rfl) (HEL.out _ HC.out) (fun hHeld => ?_)
  refine wpAnyR_take 0 rfl (by kernel_rfl) (by kernel_rfl) (by kernel_rfl) (by kernel_rfl) (fun _ _ _ h => h) (by rfl) (v := ?_) ?_ (by assumption) ?_
  rotate_left
  focus
    intro wS hSw
    (try dsimp only at hSw)
    go_simp
    (try simp only [hSw])
    try with_reducible rfl
  intro hHeld
  try simp only [Act.put, List.setIfInBounds_toArray, List.set_cons_zero, List.set_cons_succ]
  refine wpAnyR_take 1 rfl (by kernel_rfl) (by kernel_rfl) (by kernel_rfl) (by kernel_rfl) (fun _ _ _ h => h) (by rfl) (v := ?_) ?_ (by assumption) ?_
  rotate_left
  focus
    intro wS hSw
    (try dsimp only at hSw)
    go_simp
    (try simp only [hSw])
    try with_reducible rfl
  intro hHeld
  try simp only [Act.put, List.setIfInBounds_toArray, List.set_cons_zero, List.set_cons_succ]
  refine wpAnyR_take 2 rfl (by kernel_rfl) (by kernel_rfl) (by kernel_rfl) (by kernel_rfl) (fun _ _ _ h => h) (by rfl) (v := ?_) ?_ (by assumption) ?_
  rotate_left
  focus
    intro wS hSw
    (try dsimp only at hSw)
    go_simp
    (try simp only [hSw])
    try with_reducible rfl
  intro hHeld
  try simp only [Act.put, List.setIfInBounds_toArray, List.set_cons_zero, List.set_cons_succ]
  refine wpAnyR_take 3 rfl (by kernel_rfl) (by kernel_rfl) (by kernel_rfl) (by kernel_rfl) (fun _ _ _ h => h) (by rfl) (v := ?_) ?_ (by assumption) ?_
  rotate_left
  focus
    intro wS hSw
    (try dsimp only at hSw)
    go_simp
    (try simp only [hSw])
    try with_reducible rfl
  intro hHeld
  try simp only [Act.put, List.setIfInBounds_toArray, List.set_cons_zero, List.set_cons_succ]
  refine wpAnyR_take 4 rfl (by kernel_rfl) (by kernel_rfl) (by kernel_rfl) (by kernel_rfl) (fun _ _ _ h => h) (by rfl) (v := ?_) ?_ (by assumption) ?_
  rotate_left
  focus
    intro wS hSw
    (try dsimp only at hSw)
    go_simp
    (try simp only [hSw])
    try with_reducible rfl
  intro hHeld
  try simp only [Act.put, List.setIfInBounds_toArray, List.set_cons_zero, List.set_cons_succ]
  refine wpAnyR_take 5 rfl (by kernel_rfl) (by kernel_rfl) (by kernel_rfl) (by kernel_rfl) (fun _ _ _ h => h) (by rfl) (v := ?_) ?_ (by assumption) ?_
  rotate_left
  focus
    intro wS hSw
    (try dsimp only at hSw)
    go_simp
    (try simp only [hSw])
    try with_reducible rfl
  intro hHeld
  try simp only [Act.put, List.setIfInBounds_toArray, List.set_cons_zero, List.set_cons_succ]
  refine wpAnyR_take 6 rfl (by kernel_rfl) (by kernel_rfl) (by kernel_rfl) (by kernel_rfl) (fun _ _ _ h => h) (by rfl) (v := ?_) ?_ (by assumption) ?_
  rotate_left
  focus
    intro wS hSw
    (try dsimp only at hSw)
    go_simp
    (try simp only [hSw])
    try with_reducible rfl
  intro hHeld
  try simp only [Act.put, List.setIfInBounds_toArray, List.set_cons_zero, List.set_cons_succ]
  refine wpAnyR_take 7 rfl (by kernel_rfl) (by kernel_rfl) (by kernel_rfl) (by kernel_rfl) (fun _ _ _ h => h) (by rfl) (v := ?_) ?_ (by assumption) ?_
  rotate_left
  focus
    intro wS hSw
    (try dsimp only at hSw)
    go_simp
    (try simp only [hSw])
    try with_reducible rfl
  intro hHeld
  try simp only [Act.put, List.setIfInBounds_toArray, List.set_cons_zero, List.set_cons_succ]
  refine wpAnyR_take 8 rfl (by kernel_rfl) (by kernel_rfl) (by kernel_rfl) (by kernel_rfl) (fun _ _ _ h => h) (by rfl) (v := ?_) ?_ (by assumption) ?_
  rotate_left
  focus
    intro wS hSw
    (try dsimp only at hSw)
    go_simp
    (try simp only [hSw])
    try with_reducible rfl
  intro hHeld
  try simp only [Act.put, List.setIfInBounds_toArray, List.set_cons_zero, List.set_cons_succ]
  refine wpAnyR_take 10 rfl (by kernel_rfl) (by kernel_rfl) (by kernel_rfl) (by kernel_rfl) (fun _ _ _ h => h) (by rfl) (v := ?_) ?_ (by assumption) ?_
  rotate_left
  focus
    intro wS hSw
    (try dsimp only at hSw)
    go_simp
    (try simp only [hSw])
    try with_reducible rfl
  intro hHeld
  try simp only [Act.put, List.setIfInBounds_toArray, List.set_cons_zero, List.set_cons_succ]
  refine wpAnyR_take 11 rfl (by kernel_rfl) (by kernel_rfl) (by kernel_rfl) (by kernel_rfl) (fun _ _ _ h => h) (by rfl) (v := ?_) ?_ (by assumption) ?_
  rotate_left
  focus
    intro wS hSw
    (try dsimp only at hSw)
    go_simp
    (try simp only [hSw])
    try with_reducible rfl
  intro hHeld
  try simp only [Act.put, List.setIfInBounds_toArray, List.set_cons_zero, List.set_cons_succ]
  refine wpAnyR_step 9 rfl (by kernel_rfl) (fun K hK => ?_)
  go_simp
  go_at_call 7
  refine (HS1.out).mono ?_
  rintro r wX ⟨rfl, hbX⟩
  have HC' := Lib.hid (HC.out.trans (hbX.mono HC.out.size))
  clear HC
  have HC := HC'
  clear HC' hbX
  go_wp2_with fail
  refine hK.out _ _ (HEL.out _ HC.out) (fun hHeld => ?_)
  clear hK K
  try simp only [Act.put, List.setIfInBounds_toArray, List.set_cons_zero, List.set_cons_succ]
  refine wpAnyR_step 12 rfl (by kernel_rfl) (fun K hK => ?_)
  go_simp
  go_at_call 8
  refine (HSO.out _ HC.out).mono ?_
  rintro r wX ⟨rfl, hbX⟩
  have HC' := Lib.hid (HC.out.trans (hbX.mono HC.out.size))
  clear HC
  have HC := HC'
  clear HC' hbX
  go_wp2_with fail
  refine hK.out _ _ (HEL.out _ HC.out) (fun hHeld => ?_)
  clear hK K
  try simp only [Act.put, List.setIfInBounds_toArray, List.set_cons_zero, List.set_cons_succ]
  refine wpAnyR_take 13 rfl (by kernel_rfl) (by kernel_rfl) (by kernel_rfl) (by kernel_rfl) (fun _ _ _ h => h) (by rfl) (v := ?_) ?_ (by assumption) ?_
  rotate_left
  focus
    intro wS hSw
    (try dsimp only at hSw)
    go_simp
    (try simp only [hSw])
    try with_reducible rfl
  intro hHeld
  try simp only [Act.put, List.setIfInBounds_toArray, List.set_cons_zero, List.set_cons_succ]
  refine wpAnyR_take 14 rfl (by kernel_rfl) (by kernel_rfl) (by kernel_rfl) (by kernel_rfl) (fun _ _ _ h => h) (by rfl) (v := ?_) ?_ (by assumption) ?_
  rotate_left
  focus
    intro wS hSw
    (try dsimp only at hSw)
    go_simp
    (try simp only [hSw])
    try with_reducible rfl
  intro hHeld
  try simp only [Act.put, List.setIfInBounds_toArray, List.set_cons_zero, List.set_cons_succ]
  refine wpAnyR_take 15 rfl (by kernel_rfl) (by kernel_rfl) (by kernel_rfl) (by kernel_rfl) (fun _ _ _ h => h) (by rfl) (v := ?_) ?_ (by assumption) ?_
  rotate_left
  focus
    intro wS hSw
    (try dsimp only at hSw)
    go_simp
    (try simp only [hSw])
    try with_reducible rfl
  intro hHeld
  try simp only [Act.put, List.setIfInBounds_toArray]
  refine wpAnyR_done (by kernel_rfl) ?_
  refine NoPanic.normal ?_
  go_wp2_with fail
  go_ret
  exact ⟨by simp, HBW.out _ HC.out⟩
set_option maxRecDepth 100000 in
theorem unl_lifted (os : Os) (started : os.Started) (H : Type) (enc : TypeId × Value → H) (F : Stop.Interp) :
    ReturnsInHanded {} Tryd.checked os 3 .any ((Rows.OpenSpec.upto Rows.printUnlikeSpec).preRow enc Tryd.prog Tryd.f3 Rows.printUnlikeUptoRow.domain false Rows.printUnlikeUptoRow.laid) (((Rows.OpenSpec.upto Rows.printUnlikeSpec).at F).post enc Tryd.prog Tryd.f3 false true false false) := by
  have hx : ∃ places, DataW.whole enc Tryd.prog (((laidW os).forCall (fun _ _ => 0) ⟨#[], #[.agg #[.int .i64 0, .int .i64 0, .slice none 0 0, .slice none 0 0, .slice none 0 0], .agg #[.int .i64 0, .int .i64 0, .slice none 0 0, .slice none 0 0, .slice none 0 0]], []⟩).memory) Tryd.f3.params.toList Rows.printUnlikeSpec.vars false #[.agg #[.int .i64 0, .int .i64 0, .slice none 0 0, .slice none 0 0, .slice none 0 0], .agg #[.int .i64 0, .int .i64 0, .slice none 0 0, .slice none 0 0, .slice none 0 0]].toList 8 = some ([.agg [.lit (.int .i64 0), .lit (.int .i64 0), .nil, .nil, .nil], .agg [.lit (.int .i64 0), .lit (.int .i64 0), .nil, .nil, .nil]], [], places) := ⟨[], by kernel_rfl⟩
  obtain ⟨places, hx⟩ := hx
  refine returnsInHanded_of_row (C := Tryd.checked) (s := Rows.OpenSpec.upto Rows.printUnlikeSpec) own started (by kernel_rfl) Tryd.func3
    (witness_row_at (enc := enc) (C := Tryd.checked) false (laidW os) #[.agg #[.int .i64 0, .int .i64 0, .slice none 0 0, .slice none 0 0, .slice none 0 0], .agg #[.int .i64 0, .int .i64 0, .slice none 0 0, .slice none 0 0, .slice none 0 0]] rfl (by kernel_rfl) (by kernel_rfl) (by kernel_rfl)
      (OpenSpec.preRow_of_cond 8 hx (by kernel_rfl) (fun k hk => by cases hk; kernel_rfl) (by kernel_rfl) (laidW_met os _))) ?_
  intro W base args ds gs before hval0 hW _ hcond _ hL _ _
  have htab : Tab W := tab_of_laid13 hL
  clear hL
  have hk := hcond _ rfl
  have hval : ∀ (j : Nat) t v, Tryd.f3.params[j]? = some t → args[j]? = some v → Value.okWide Tryd.prog W .any base t v := hval0
  have hW' := hW
  obtain ⟨p, q, hA0, hV, rfl, hfz, hnd⟩ := hW
  have hA : DataW.TrodAll enc Tryd.prog W 0 (fun _ => true) true Tryd.f3.params.toList args.toList ds p := hA0
  rw [Tryd.params3] at hA hval
  obtain ⟨v0, vs0, d0, ds0, p0, q0, hargs, rfl, rfl, h0, r0⟩ := trodAll_cons hA
  obtain ⟨v1, vs1, d1, ds1, p1, q1, rfl, rfl, rfl, h1, r1⟩ := trodAll_cons r0
  obtain ⟨rfl, rfl, rfl⟩ := trodAll_nil r1
  obtain rfl : args = #[v0, v1] := by cases args; simp_all
  obtain ⟨rfl, rfl⟩ := trodVars_none hV
  obtain ⟨cs0, rfl, hcs0⟩ := okWide_struct Tryd.underlying26 (hval 0 26 v0 rfl rfl)
  obtain ⟨x0, c00, c01, c02, c03, c04, rfl, ob0, hbk⟩ := open_objB h0 (fun _ => rfl)
  have lt0 : ∀ x ∈ p0, x.block < W.heap.size := by obtain ⟨m, hm⟩ := h0; exact DataW.trod_lt m _ _ _ hm
  obtain ⟨cs1, rfl, hcs1⟩ := okWide_struct Tryd.underlying26 (hval 1 26 v1 rfl rfl)
  obtain ⟨y0, e00, e01, e02, e03, e04, rfl, ob1, hbk1⟩ := open_objB h1 (fun _ => rfl)
  have lt1 : ∀ x ∈ p1, x.block < W.heap.size := by obtain ⟨m, hm⟩ := h1; exact DataW.trod_lt m _ _ _ hm
  have hsm : bkO x0 ≤ 1048576 ∧ bkO y0 ≤ 1048576 := by
    have h := of_decide_eq_true hk
    simp only [List.append_nil, Rows.uptoBulkAll] at h
    omega
  clear hA0 hval0
  refine (unl_walk x0 y0 c00 c01 c02 c03 c04 e00 e01 e02 e03 e04 W htab ob0 ob1 (by omega) (by omega)).mono fun e W' ⟨he, bel⟩ => ?_
  subst he
  exact ⟨_, rfl, _, _, _, [], _, [], hW', trodAll_mk1 (shut_bool Tryd.underlying4 _), (trodAll_cons_mk (Below.trod laidOut (by kernel_rfl) (of_decide_eq_true (by kernel_rfl)) h0 bel lt0) (trodAll_cons_mk (Below.trod laidOut (by kernel_rfl) (of_decide_eq_true (by kernel_rfl)) h1 bel lt1) trodAll_mk0)), rfl, bel.frame _, fun h => by cases h⟩
theorem unl_said : Rows.PrintUnlikeUptoSaid :=
  OpenClaim.holds_of_cond 3 Tryd.f3 rfl rfl rfl rfl rfl rfl rfl ⟨rfl, rfl, rfl, rfl, rfl⟩ rfl rfl rfl rfl rfl (by kernel_rfl) Tryd.func3 (by kernel_rfl)
    (of_decide_eq_true (by kernel_rfl)) (by unfold Func.isWrapper; first | (rw [if_pos (by decide +kernel)]; kernel_rfl) | (rw [if_neg (by decide +kernel)]; exact ⟨rfl, rfl⟩))
    (fun os started H enc _ F => by rw [OpenClaim.pre_eq_preRow]; exact unl_lifted os started H enc F)
/-- The card of PrintUnlike, where what comes in is of the bulk that the row names. -/
theorem unl_card : Rows.PrintUnlikeUptoCardSaid :=
  Claim7.holds_tied_plain_at .later [] _ _ _ _ unl_said (fun _ h => by cases h) (by kernel_rfl) (fun _ h => by cases h) printUnlikeUpto_row_tie rfl ⟨rfl, rfl⟩ (by kernel_rfl) rfl
    (fun f fn hf hfn => by
      obtain rfl : f = 3 := Option.some.inj ((show Tryd.prog.funcNamed "pressmark/pressmarklaw13.PrintUnlike" = some 3 by kernel_rfl).symm.trans hf) |>.symm
      obtain rfl : fn = Tryd.f3 := (Option.some.inj (Tryd.func3.symm.trans hfn)).symm
      exact ⟨by kernel_rfl, fun j t ht => by
        rw [Tryd.params3] at ht
        have hm : t ∈ [26, 26] := by simpa using Array.mem_of_getElem? ht
        have hall : ([26, 26].all fun u => !Tryd.prog.wantsStandIn u) = true := by kernel_rfl
        exact (show Tryd.prog.wantsStandIn t = false by simpa using List.all_eq_true.1 hall t hm)⟩)
    (by kernel_rfl)
#print axioms unl_card
end Go.Proofs.YtliieeagbpmcgaaDoor
