/- PrintValues: any object, any bytes: an object's bytes, or that it may not be; a name, a string. Where what comes in is small. -/
import Derived.Test.YtliieeagbpmcgaaGreatDoorPv42
import Derived.Test.YtliieeagbpmcgaaGreatDoorPv43
namespace Go.Proofs.YtliieeagbpmcgaaGreatDoor
open Go.ChangeShapes Go.WideShapes Go.ChangeAt Go.RowKit Go.Deep
set_option linter.unusedVariables false
set_option maxRecDepth 100000
theorem same13 {A A2 : Option Addr} {n c B c2 B2 : Nat} {zs : List Int} {w : World} (hb : Byt w B A n c zs) (hb2 : Byt w B2 A2 n c2 zs) (hn : n ≤ 9223372036854775807) :
    Calls Tryz.prog 19 #[.slice A n c, .slice A2 n c2] w fun r w' => r = .returned (.bool true) ∧ Below w.heap.size w w' :=
  (refSame_yes A A2 n c B c2 B2 zs w hb hb2 hn).mono fun r w' ⟨h, q, e⟩ => ⟨h, e ▸ below_drewN (Below.refl _ _) q⟩
/-- What Value answers: bytes, or none and 1. -/
def VlP (w : World) (R : List Int) (E : Int) (r : Ending) (w' : World) : Prop := ∃ A c, r = .returned (.tuple #[.slice A R.length c, .int .i64 E]) ∧ Byt w' w'.heap.size A R.length c R ∧ Below w.heap.size w w'
theorem pVl {x : Ob} {w : World} {c0 c1 c2 c3 c4 : Value} (hx : ObR w (fun g => g < w.heap.size) x c0 c1 c2 c3 c4) (ht : Tab w) (hok : okO x) (hht : htO x ≤ 100000000) (hl : mayO x 28 = true → (prO x).length ≤ 10000000000000) :
    Calls Tryz.prog 12 #[.agg #[c0, c1, c2, c3, c4]] w (VlP w (if mayO x 28 = true ∧ x.kind ≠ 8 then prO x else []) (if mayO x 28 = true ∧ x.kind ≠ 8 then 0 else 1)) := by
  by_cases h : mayO x 28 = true ∧ x.kind ≠ 8
  · rw [if_pos h, if_pos h]
    refine (pVal_yes hx ht hok hht h.1 h.2 (hl h.1)).mono ?_
    rintro r w' ⟨v, rfl, hm, hb⟩
    obtain ⟨A, c, rfl, hy⟩ := hm.byt
    exact ⟨A, c, rfl, hy, hb⟩
  · rw [if_neg h, if_neg h]
    refine (pVal_no hx hok hht h).mono ?_
    rintro r w' ⟨rfl, hb⟩
    exact ⟨none, 0, rfl, Byt.none_ _ _, hb⟩
theorem rVl {x : Ob} {w : World} {c0 c1 c2 c3 c4 : Value} (hx : ObR w (fun g => g < w.heap.size) x c0 c1 c2 c3 c4) (hl : mayO x 28 = true → (prO x).length ≤ 10000000000000) :
    Calls Tryz.prog 18 #[.agg #[c0, c1, c2, c3, c4]] w (VlP w (if mayO x 28 = true ∧ x.kind ≠ 8 then prO x else []) (if mayO x 28 = true ∧ x.kind ≠ 8 then 0 else 1)) := by
  by_cases h : mayO x 28 = true ∧ x.kind ≠ 8
  · rw [if_pos h, if_pos h]
    exact rPr_yes hx h.1 h.2 (hl h.1)
  · rw [if_neg h, if_neg h]
    refine (rPr_no hx h).mono ?_
    rintro r w' ⟨rfl, hb⟩
    exact ⟨none, 0, rfl, Byt.none_ _ _, hb⟩
set_option maxHeartbeats 8000000 in
theorem pvals_walk (x : Ob) (a0 a1 a2 a3 a4 : Value) (A : Option Addr) (n c : Nat) (zs : List Int) (w : World) (ht : Tab w) (hx : ObR w (fun g => g < w.heap.size) x a0 a1 a2 a3 a4) (hbk : bkO x ≤ 100000000) (hz : Byt w w.heap.size A n c zs) (hn9 : n ≤ 9223372036854775807) :
    Calls Tryz.prog 4 #[.agg #[a0, a1, a2, a3, a4], .slice A n c] w fun e w' => e = .returned (.bool true) ∧ Below w.heap.size w w' := by
  obtain ⟨k9, n9, A29, m29, c29, A39, m39, c39, A49, m49, c49, rfl, rfl, rfl, rfl, rfl⟩ := hx.form
  obtain ⟨hok, hht, hrl, hsz, -⟩ := bkO_all x hbk
  have hpl : mayO x 28 = true → (prO x).length ≤ 10000000000000 := fun h => by have := prO_len x 28 h; omega
  have hb2 := (Below.refl w.heap.size w).alloc (Nat.le_refl _) (.cells #[.int .i64 k9, .int .i64 n9, .slice A29 m29 c29, .slice A39 m39 c39, .slice A49 m49 c49] 30)
  have hn2 := heap_alloc_new w (.cells #[.int .i64 k9, .int .i64 n9, .slice A29 m29 c29, .slice A39 m39 c39, .slice A49 m49 c49] 30)
  obtain ⟨W2, hW2⟩ : ∃ W2, w.alloc (.cells #[.int .i64 k9, .int .i64 n9, .slice A29 m29 c29, .slice A39 m39 c39, .slice A49 m49 c49] 30) = W2 := ⟨_, rfl⟩
  have hs2 : W2.heap.size = w.heap.size + 1 := by rw [← hW2]; simp
  rw [hW2] at hb2 hn2
  have HX : Hid (∀ W, Below w.heap.size w W → ObR W (fun g => g < w.heap.size) x (.int .i64 k9) (.int .i64 n9) (.slice A29 m29 c29) (.slice A39 m39 c39) (.slice A49 m49 c49)) := Lib.hid (fun W hW => ObR.keep (fun g hg => hW.block g hg) (fun _ h => h) x hx)
  have HX2 : Hid (∀ W, Below w.heap.size w W → ObR W (fun g => g < W.heap.size) x (.int .i64 k9) (.int .i64 n9) (.slice A29 m29 c29) (.slice A39 m39 c39) (.slice A49 m49 c49)) := Lib.hid (fun W hW => ObR.keep (fun g hg => hW.block g hg) (fun g hg => Nat.lt_of_lt_of_le hg hW.size) x hx)
  have HBW : Hid (∀ W, Below W2.heap.size W2 W → Below w.heap.size w W) := Lib.hid (fun W hW => hb2.trans (hW.mono (by omega)))
  have HEL : Hid (∀ W, Below W2.heap.size W2 W → W.cell? ⟨w.heap.size, 0, none⟩ = some (.int .i64 k9) ∧ W.cell? ⟨w.heap.size, 1, none⟩ = some (.int .i64 n9) ∧ W.cell? ⟨w.heap.size, 2, none⟩ = some (.slice A29 m29 c29) ∧ W.cell? ⟨w.heap.size, 3, none⟩ = some (.slice A39 m39 c39) ∧ W.cell? ⟨w.heap.size, 4, none⟩ = some (.slice A49 m49 c49)) := Lib.hid (fun W hW => by
    have e1 := (hW.block w.heap.size (by omega)).trans hn2
    exact ⟨cell_of_row _ _ 0 _ _ (0, 0) e1, cell_of_row _ _ 1 _ _ (0, 0) e1, cell_of_row _ _ 2 _ _ (0, 0) e1, cell_of_row _ _ 3 _ _ (0, 0) e1, cell_of_row _ _ 4 _ _ (0, 0) e1⟩)
  have HZ : Hid (∀ W, Below w.heap.size w W → Byt W W.heap.size A n c zs) := Lib.hid (fun W hW => (hz.below hW (Nat.le_refl _)).more hW.size)
  have HAW := Lib.hid (awake13 W2 (ht.below hb2 (Nat.le_refl _)))
  obtain ⟨RX, hRX⟩ : ∃ RX, roomO x 40 60 = RX := ⟨_, rfl⟩
  have HRX : Hid (∀ W, Below W2.heap.size W2 W → Calls Tryz.prog 17 #[.agg #[.int .i64 k9, .int .i64 n9, .slice A29 m29 c29, .slice A39 m39 c39, .slice A49 m49 c49], .int .i64 40, .int .i64 60] W fun r w' => r = .returned (.bool RX) ∧ Below W.heap.size W w') := Lib.hid (fun W hW => by
    have h := roomC _ x (Nat.le_refl _) (fun g => g < w.heap.size) W _ _ _ _ _ 40 60 (HX.out W (HBW.out W hW)) (fun g hg => Nat.lt_of_lt_of_le hg (HBW.out W hW).size) (by omega)
    rw [hRX] at h
    exact h)
  obtain ⟨R, hR⟩ : ∃ R, (if mayO x 28 = true ∧ x.kind ≠ 8 then prO x else []) = R := ⟨_, rfl⟩
  have hE : (if mayO x 28 = true ∧ x.kind ≠ 8 then (0 : Int) else 1) = 0 ∨ (if mayO x 28 = true ∧ x.kind ≠ 8 then (0 : Int) else 1) = 1 := by split <;> simp
  have hRl : R.length ≤ 10000000000000 := by
    rw [← hR]
    split
    · rename_i h; exact hpl h.1
    · simp
  have HRL := Lib.hid hRl
  obtain ⟨E, hEE⟩ : ∃ E, (if mayO x 28 = true ∧ x.kind ≠ 8 then (0 : Int) else 1) = E := ⟨_, rfl⟩
  rw [hEE] at hE
  have HPV : Hid (∀ W, Below W2.heap.size W2 W → Calls Tryz.prog 12 #[.agg #[.int .i64 k9, .int .i64 n9, .slice A29 m29 c29, .slice A39 m39 c39, .slice A49 m49 c49]] W (VlP W R E)) := Lib.hid (fun W hW => by
    have h := pVl (HX2.out W (HBW.out W hW)) (ht.below (HBW.out W hW) (Nat.le_refl _)) hok (by omega) hpl
    rw [hR, hEE] at h
    exact h)
  have HRV : Hid (∀ W, Below W2.heap.size W2 W → Calls Tryz.prog 18 #[.agg #[.int .i64 k9, .int .i64 n9, .slice A29 m29 c29, .slice A39 m39 c39, .slice A49 m49 c49]] W (VlP W R E)) := Lib.hid (fun W hW => by
    have h := rVl (HX2.out W (HBW.out W hW)) hpl
    rw [hR, hEE] at h
    exact h)
  have HW2 := Lib.hid hW2
  have HZL := Lib.hid hz.len
  have HZR := Lib.hid hz.rng
  clear hx ht hok hht hrl hsz hpl hb2 hn2 hs2 hW2 hRX hbk hR hEE hRl HX HX2 hz
  go_enter Tryz.func4, Tryz.ntmps4
  go_upto_region 1 with fail
  rw [HW2.out]
  go_upto_region 3 with (go_at_call 11; (with_reducible refine HAW.out.mono ?_); (rintro r w0 ⟨rfl, hb0⟩); have HC := Lib.hid hb0; clear hb0)
  obtain ⟨q0, q1, q2, q3, q4⟩ := HEL.out _ HC.out
  cases RX
  · go_wp2_with (go_at_call 17; (with_reducible refine (HRX.out _ HC.out).mono ?_); (rintro r w5 ⟨rfl, hb5⟩); have HC' := Lib.hid (HC.out.trans (hb5.mono HC.out.size)); clear HC hb5 q0 q1 q2 q3 q4; have HC := HC'; clear HC'; (obtain ⟨q0, q1, q2, q3, q4⟩ := HEL.out _ HC.out))
    go_ret
    exact ⟨rfl, HBW.out _ HC.out⟩
  by_cases hn : n ≤ 500
  case neg =>
    have hg5 : (n : Int) > 500 := by omega
    go_wp2_with (go_at_call 17; (with_reducible refine (HRX.out _ HC.out).mono ?_); (rintro r w5 ⟨rfl, hb5⟩); have HC' := Lib.hid (HC.out.trans (hb5.mono HC.out.size)); clear HC hb5 q0 q1 q2 q3 q4; have HC := HC'; clear HC'; (obtain ⟨q0, q1, q2, q3, q4⟩ := HEL.out _ HC.out))
    go_ret
    exact ⟨rfl, HBW.out _ HC.out⟩
  have hg5 : ¬ (n : Int) > 500 := by omega
  obtain ⟨S, hS⟩ : ∃ S, strOfNums zs = S := ⟨_, rfl⟩
  have HCV : Hid (∀ W, Below W2.heap.size W2 W → (convert 23 9 (.slice A n c)).run Tryz.prog W = .ok (.string S) W) := Lib.hid (fun W hW => conv_s13 (HZ.out W (HBW.out W hW)) S hS)
  have hSZ : strZ S = zs := by rw [← hS]; exact strZ_of13 zs HZR.out
  have hSl : S.size ≤ 500 := by rw [← strZ_len, hSZ, HZL.out]; exact hn
  have HPN := Lib.hid (fun W => hSZ ▸ pNm S W (by omega))
  have HRN := Lib.hid (fun W => hSZ ▸ printNameC S W (by omega))
  have HPT := Lib.hid (fun W (hW : Below W2.heap.size W2 W) => pTx A n c zs W (HZ.out W (HBW.out W hW)) (by omega))
  have HRT := Lib.hid (fun W (hW : Below W2.heap.size W2 W) => printTextC A n c zs W (HZ.out W (HBW.out W hW)) (by omega))
  have HNL : Hid ((47 :: nmS zs).length ≤ 5000) := Lib.hid (by have := nmS_len13 zs; have := HZL.out; rw [List.length_cons]; omega)
  have HTL : Hid ((txS zs).length ≤ 5000) := Lib.hid (by have := txS_len zs; have := HZL.out; omega)
  obtain ⟨NM, hNM⟩ : ∃ NM, 47 :: nmS zs = NM := ⟨_, rfl⟩
  obtain ⟨TX, hTX⟩ : ∃ TX, txS zs = TX := ⟨_, rfl⟩
  rw [hNM] at HPN HRN HNL
  rw [hTX] at HPT HRT HTL
  clear hNM hTX hSl hSZ hS
  go_upto_region 5 with (go_at_call 17; (with_reducible refine (HRX.out _ HC.out).mono ?_); (rintro r w5 ⟨rfl, hb5⟩); have HC' := Lib.hid (HC.out.trans (hb5.mono HC.out.size)); clear HC hb5 q0 q1 q2 q3 q4; have HC := HC'; clear HC'; (obtain ⟨q0, q1, q2, q3, q4⟩ := HEL.out _ HC.out))
  go_upto_region 6 with (go_at_call 12; (with_reducible refine (HPV.out _ HC.out).mono ?_); (rintro r w6 ⟨A6, c6, rfl, hy6, hb6⟩); have HY6 := Lib.hid hy6; have HC' := Lib.hid (HC.out.trans (hb6.mono HC.out.size)); clear HC hb6 hy6 q0 q1 q2 q3 q4; have HC := HC'; clear HC'; (obtain ⟨q0, q1, q2, q3, q4⟩ := HEL.out _ HC.out))
  go_upto_region 7 with (go_at_call 18; (with_reducible refine (HRV.out _ HC.out).mono ?_); (rintro r w7 ⟨A7, c7, rfl, hy7, hb7⟩); have HY7 := Lib.hid hy7; have HY6' := Lib.hid ((HY6.out.below hb7 (Nat.le_refl _)).more hb7.size); clear HY6; have HY6 := HY6'; clear HY6'; have HC' := Lib.hid (HC.out.trans (hb7.mono HC.out.size)); clear HC hb7 hy7 q0 q1 q2 q3 q4; have HC := HC'; clear HC')
  have HC' := Lib.hid HC.out.drew
  have HY6' := Lib.hid (HY6.out.drewN 1)
  have HY7' := Lib.hid (HY7.out.drewN 1)
  clear HC HRX HAW HPV HRV HEL HY6 HY7
  have HC := HC'
  clear HC'
  rcases hE with rfl | rfl
  all_goals
    refine wp_region_heldR (fun W => (convert 23 9 (.slice A n c)).run Tryz.prog W = .ok (.string S) W) 1000 (by kernel_rfl) (HCV.out _ HC.out) (fun hHeld => ?_)
    refine wpAnyR_take 0 rfl (by kernel_rfl) (by kernel_rfl) (by kernel_rfl) (by kernel_rfl) (fun _ _ _ h => h) (by rfl) (v := ?_) ?_ (by assumption) ?_
    rotate_left
    focus
      intro wS hSw
      (try dsimp only at hSw)
      go_simp
      (try simp only [hSw])
      try with_reducible rfl
    intro hHeld
    try simp only [Act.put, List.setIfInBounds_toArray, List.set_cons_zero, List.set_cons_succ]
    refine wpAnyR_take 1 rfl (by kernel_rfl) (by kernel_rfl) (by kernel_rfl) (by kernel_rfl) (fun _ _ _ h => h) (by rfl) (v := ?_) ?_ (by assumption) ?_
    rotate_left
    focus
      intro wS hSw
      (try dsimp only at hSw)
      go_simp
      (try simp only [hSw])
      try with_reducible rfl
    intro hHeld
    try simp only [Act.put, List.setIfInBounds_toArray, List.set_cons_zero, List.set_cons_succ]
    refine wpAnyR_take 2 rfl (by kernel_rfl) (by kernel_rfl) (by kernel_rfl) (by kernel_rfl) (fun _ _ _ h => h) (by rfl) (v := ?_) ?_ (by assumption) ?_
    rotate_left
    focus
      intro wS hSw
      (try dsimp only at hSw)
      go_simp
      (try simp only [hSw])
      try with_reducible rfl
    intro hHeld
    try simp only [Act.put, List.setIfInBounds_toArray, List.set_cons_zero, List.set_cons_succ]
    refine wpAnyR_take 3 rfl (by kernel_rfl) (by kernel_rfl) (by kernel_rfl) (by kernel_rfl) (fun _ _ _ h => h) (by rfl) (v := ?_) ?_ (by assumption) ?_
    rotate_left
    focus
      intro wS hSw
      (try dsimp only at hSw)
      go_simp
      (try simp only [hSw])
      try with_reducible rfl
    intro hHeld
    try simp only [Act.put, List.setIfInBounds_toArray, List.set_cons_zero, List.set_cons_succ]
    refine wpAnyR_take 4 rfl (by kernel_rfl) (by kernel_rfl) (by kernel_rfl) (by kernel_rfl) (fun _ _ _ h => h) (by rfl) (v := ?_) ?_ (by assumption) ?_
    rotate_left
    focus
      intro wS hSw
      (try dsimp only at hSw)
      go_simp
      (try simp only [hSw])
      try with_reducible rfl
    intro hHeld
    try simp only [Act.put, List.setIfInBounds_toArray, List.set_cons_zero, List.set_cons_succ]
    refine wpAnyR_take 5 rfl (by kernel_rfl) (by kernel_rfl) (by kernel_rfl) (by kernel_rfl) (fun _ _ _ h => h) (by rfl) (v := ?_) ?_ (by assumption) ?_
    rotate_left
    focus
      intro wS hSw
      (try dsimp only at hSw)
      go_simp
      (try simp only [hSw])
      try with_reducible rfl
    intro hHeld
    try simp only [Act.put, List.setIfInBounds_toArray, List.set_cons_zero, List.set_cons_succ]
    refine wpAnyR_step 6 rfl (by kernel_rfl) (fun K hK => ?_)
    go_simp
    go_at_call 19
    refine (same13 HY6'.out HY7'.out (by have := HRL.out; omega)).mono ?_
    rintro r wX ⟨rfl, hbX⟩
    clear HY6' HY7'
    have HC' := Lib.hid (HC.out.trans (hbX.mono HC.out.size))
    clear HC
    have HC := HC'
    clear HC' hbX
    go_wp2_with fail
    refine hK.out _ _ (HCV.out _ HC.out) (fun hHeld => ?_)
    clear hK K
    try simp only [Act.put, List.setIfInBounds_toArray, List.set_cons_zero, List.set_cons_succ]
    refine wpAnyR_take 7 rfl (by kernel_rfl) (by kernel_rfl) (by kernel_rfl) (by kernel_rfl) (fun _ _ _ h => h) (by rfl) (v := ?_) ?_ (by assumption) ?_
    rotate_left
    focus
      intro wS hSw
      (try dsimp only at hSw)
      go_simp
      (try simp only [hSw])
      try with_reducible rfl
    intro hHeld
    try simp only [Act.put, List.setIfInBounds_toArray, List.set_cons_zero, List.set_cons_succ]
    refine wpAnyR_take 8 rfl (by kernel_rfl) (by kernel_rfl) (by kernel_rfl) (by kernel_rfl) (fun _ _ _ h => h) (by rfl) (v := ?_) ?_ (by assumption) ?_
    rotate_left
    focus
      intro wS hSw
      (try dsimp only at hSw)
      go_simp
      (try simp only [hSw])
      try with_reducible rfl
    intro hHeld
    try simp only [Act.put, List.setIfInBounds_toArray, List.set_cons_zero, List.set_cons_succ]
    refine wpAnyR_take 9 rfl (by kernel_rfl) (by kernel_rfl) (by kernel_rfl) (by kernel_rfl) (fun _ _ _ h => h) (by rfl) (v := ?_) ?_ (by assumption) ?_
    rotate_left
    focus
      intro wS hSw
      (try dsimp only at hSw)
      go_simp
      (try simp only [hSw])
      try with_reducible rfl
    intro hHeld
    try simp only [Act.put, List.setIfInBounds_toArray, List.set_cons_zero, List.set_cons_succ]
    refine wpAnyR_take 10 rfl (by kernel_rfl) (by kernel_rfl) (by kernel_rfl) (by kernel_rfl) (fun _ _ _ h => h) (by rfl) (v := ?_) ?_ (by assumption) ?_
    rotate_left
    focus
      intro wS hSw
      (try dsimp only at hSw)
      go_simp
      (try simp only [hSw])
      try with_reducible rfl
    intro hHeld
    try simp only [Act.put, List.setIfInBounds_toArray, List.set_cons_zero, List.set_cons_succ]
    refine wpAnyR_take 12 rfl (by kernel_rfl) (by kernel_rfl) (by kernel_rfl) (by kernel_rfl) (fun _ _ _ h => h) (by rfl) (v := ?_) ?_ (by assumption) ?_
    rotate_left
    focus
      intro wS hSw
      (try dsimp only at hSw)
      go_simp
      (try simp only [hSw])
      try with_reducible rfl
    intro hHeld
    try simp only [Act.put, List.setIfInBounds_toArray, List.set_cons_zero, List.set_cons_succ]
    refine wpAnyR_take 13 rfl (by kernel_rfl) (by kernel_rfl) (by kernel_rfl) (by kernel_rfl) (fun _ _ _ h => h) (by rfl) (v := ?_) ?_ (by assumption) ?_
    rotate_left
    focus
      intro wS hSw
      (try dsimp only at hSw)
      go_simp
      (try simp only [hSw])
      try with_reducible rfl
    intro hHeld
    try simp only [Act.put, List.setIfInBounds_toArray, List.set_cons_zero, List.set_cons_succ]
    refine wpAnyR_step 11 rfl (by kernel_rfl) (fun K hK => ?_)
    go_simp
    go_at_call 15
    refine (HPN.out _).mono ?_
    rintro r wX ⟨vA, rfl, hmA, hbX⟩
    obtain ⟨AA, cA, rfl, hyA⟩ := hmA.byt
    have HYA := Lib.hid hyA
    clear hmA hyA
    have HC' := Lib.hid (HC.out.trans (hbX.mono HC.out.size))
    clear HC
    have HC := HC'
    clear HC' hbX
    go_wp2_with fail
    refine hK.out _ _ (HCV.out _ HC.out) (fun hHeld => ?_)
    clear hK K
    try simp only [Act.put, List.setIfInBounds_toArray, List.set_cons_zero, List.set_cons_succ]
    refine wpAnyR_step 14 rfl (by kernel_rfl) (fun K hK => ?_)
    go_simp
    go_at_call 20
    refine (HRN.out _).mono ?_
    rintro r wX ⟨vB, rfl, hmB, hbX⟩
    obtain ⟨AB, cB, rfl, hyB⟩ := hmB.byt
    have HYB := Lib.hid (And.intro ((HYA.out.below hbX (Nat.le_refl _)).more hbX.size) hyB)
    clear hmB hyB HYA
    have HC' := Lib.hid (HC.out.trans (hbX.mono HC.out.size))
    clear HC
    have HC := HC'
    clear HC' hbX
    go_wp2_with fail
    refine hK.out _ _ (HCV.out _ HC.out) (fun hHeld => ?_)
    clear hK K
    try simp only [Act.put, List.setIfInBounds_toArray, List.set_cons_zero, List.set_cons_succ]
    refine wpAnyR_step 15 rfl (by kernel_rfl) (fun K hK => ?_)
    go_simp
    go_at_call 19
    refine (same13 HYB.out.1 HYB.out.2 (by have := HNL.out; omega)).mono ?_
    rintro r wX ⟨rfl, hbX⟩
    clear HYB
    have HC' := Lib.hid (HC.out.trans (hbX.mono HC.out.size))
    clear HC
    have HC := HC'
    clear HC' hbX
    go_wp2_with fail
    refine hK.out _ _ (HCV.out _ HC.out) (fun hHeld => ?_)
    clear hK K
    try simp only [Act.put, List.setIfInBounds_toArray, List.set_cons_zero, List.set_cons_succ]
    refine wpAnyR_take 16 rfl (by kernel_rfl) (by kernel_rfl) (by kernel_rfl) (by kernel_rfl) (fun _ _ _ h => h) (by rfl) (v := ?_) ?_ (by assumption) ?_
    rotate_left
    focus
      intro wS hSw
      (try dsimp only at hSw)
      go_simp
      (try simp only [hSw])
      try with_reducible rfl
    intro hHeld
    try simp only [Act.put, List.setIfInBounds_toArray, List.set_cons_zero, List.set_cons_succ]
    refine wpAnyR_take 17 rfl (by kernel_rfl) (by kernel_rfl) (by kernel_rfl) (by kernel_rfl) (fun _ _ _ h => h) (by rfl) (v := ?_) ?_ (by assumption) ?_
    rotate_left
    focus
      intro wS hSw
      (try dsimp only at hSw)
      go_simp
      (try simp only [hSw])
      try with_reducible rfl
    intro hHeld
    try simp only [Act.put, List.setIfInBounds_toArray, List.set_cons_zero, List.set_cons_succ]
    refine wpAnyR_take 18 rfl (by kernel_rfl) (by kernel_rfl) (by kernel_rfl) (by kernel_rfl) (fun _ _ _ h => h) (by rfl) (v := ?_) ?_ (by assumption) ?_
    rotate_left
    focus
      intro wS hSw
      (try dsimp only at hSw)
      go_simp
      (try simp only [hSw])
      try with_reducible rfl
    intro hHeld
    try simp only [Act.put, List.setIfInBounds_toArray, List.set_cons_zero, List.set_cons_succ]
    refine wpAnyR_take 20 rfl (by kernel_rfl) (by kernel_rfl) (by kernel_rfl) (by kernel_rfl) (fun _ _ _ h => h) (by rfl) (v := ?_) ?_ (by assumption) ?_
    rotate_left
    focus
      intro wS hSw
      (try dsimp only at hSw)
      go_simp
      (try simp only [hSw])
      try with_reducible rfl
    intro hHeld
    try simp only [Act.put, List.setIfInBounds_toArray, List.set_cons_zero, List.set_cons_succ]
    refine wpAnyR_step 19 rfl (by kernel_rfl) (fun K hK => ?_)
    go_simp
    go_at_call 16
    refine (HPT.out _ HC.out).mono ?_
    rintro r wX ⟨vA, rfl, hmA, hbX⟩
    obtain ⟨AA, cA, rfl, hyA⟩ := hmA.byt
    have HYA := Lib.hid hyA
    clear hmA hyA
    have HC' := Lib.hid (HC.out.trans (hbX.mono HC.out.size))
    clear HC
    have HC := HC'
    clear HC' hbX
    go_wp2_with fail
    refine hK.out _ _ (HCV.out _ HC.out) (fun hHeld => ?_)
    clear hK K
    try simp only [Act.put, List.setIfInBounds_toArray, List.set_cons_zero, List.set_cons_succ]
    refine wpAnyR_step 21 rfl (by kernel_rfl) (fun K hK => ?_)
    go_simp
    go_at_call 21
    refine (HRT.out _ HC.out).mono ?_
    rintro r wX ⟨AB, cB, rfl, hyB, hbX⟩
    have HYB := Lib.hid (And.intro ((HYA.out.below hbX (Nat.le_refl _)).more hbX.size) hyB)
    clear hyB HYA
    have HC' := Lib.hid (HC.out.trans (hbX.mono HC.out.size))
    clear HC
    have HC := HC'
    clear HC' hbX
    go_wp2_with fail
    refine hK.out _ _ (HCV.out _ HC.out) (fun hHeld => ?_)
    clear hK K
    try simp only [Act.put, List.setIfInBounds_toArray, List.set_cons_zero, List.set_cons_succ]
    refine wpAnyR_step 22 rfl (by kernel_rfl) (fun K hK => ?_)
    go_simp
    go_at_call 19
    refine (same13 HYB.out.1 HYB.out.2 (by have := HTL.out; omega)).mono ?_
    rintro r wX ⟨rfl, hbX⟩
    clear HYB
    have HC' := Lib.hid (HC.out.trans (hbX.mono HC.out.size))
    clear HC
    have HC := HC'
    clear HC' hbX
    go_wp2_with fail
    refine hK.out _ _ (HCV.out _ HC.out) (fun hHeld => ?_)
    clear hK K
    try simp only [Act.put, List.setIfInBounds_toArray, List.set_cons_zero, List.set_cons_succ]
    refine wpAnyR_take 23 rfl (by kernel_rfl) (by kernel_rfl) (by kernel_rfl) (by kernel_rfl) (fun _ _ _ h => h) (by rfl) (v := ?_) ?_ (by assumption) ?_
    rotate_left
    focus
      intro wS hSw
      (try dsimp only at hSw)
      go_simp
      (try simp only [hSw])
      try with_reducible rfl
    intro hHeld
    try simp only [Act.put, List.setIfInBounds_toArray, List.set_cons_zero, List.set_cons_succ]
    refine wpAnyR_take 24 rfl (by kernel_rfl) (by kernel_rfl) (by kernel_rfl) (by kernel_rfl) (fun _ _ _ h => h) (by rfl) (v := ?_) ?_ (by assumption) ?_
    rotate_left
    focus
      intro wS hSw
      (try dsimp only at hSw)
      go_simp
      (try simp only [hSw])
      try with_reducible rfl
    intro hHeld
    try simp only [Act.put, List.setIfInBounds_toArray]
    refine wpAnyR_done (by kernel_rfl) ?_
    refine NoPanic.normal ?_
    go_wp2_with fail
    go_ret
    exact ⟨rfl, HBW.out _ HC.out⟩
set_option maxRecDepth 100000 in
theorem pvals_lifted (os : Os) (started : os.Started) (H : Type) (enc : TypeId × Value → H) (F : Stop.Interp) :
    ReturnsInHanded {} Tryz.checked os 4 .any ((Rows.OpenSpec.upto Rows.printValuesSpec).preRow enc Tryz.prog Tryz.f4 Rows.printValuesUptoRow.domain false Rows.printValuesUptoRow.laid) (((Rows.OpenSpec.upto Rows.printValuesSpec).at F).post enc Tryz.prog Tryz.f4 false true false false) := by
  have hx : ∃ places, DataW.whole enc Tryz.prog (((laidW os).forCall (fun _ _ => 0) ⟨#[], #[.agg #[.int .i64 0, .int .i64 0, .slice none 0 0, .slice none 0 0, .slice none 0 0], .slice none 0 0], []⟩).memory) Tryz.f4.params.toList Rows.printValuesSpec.vars false #[.agg #[.int .i64 0, .int .i64 0, .slice none 0 0, .slice none 0 0, .slice none 0 0], .slice none 0 0].toList 8 = some ([.agg [.lit (.int .i64 0), .lit (.int .i64 0), .nil, .nil, .nil], .nil], [], places) := ⟨[], by kernel_rfl⟩
  obtain ⟨places, hx⟩ := hx
  refine returnsInHanded_of_row (C := Tryz.checked) (s := Rows.OpenSpec.upto Rows.printValuesSpec) own started (by kernel_rfl) Tryz.func4
    (witness_row_at (enc := enc) (C := Tryz.checked) false (laidW os) #[.agg #[.int .i64 0, .int .i64 0, .slice none 0 0, .slice none 0 0, .slice none 0 0], .slice none 0 0] rfl (by kernel_rfl) (by kernel_rfl) (by kernel_rfl)
      (OpenSpec.preRow_of_cond 8 hx (by kernel_rfl) (fun k hk => by cases hk; kernel_rfl) (by kernel_rfl) (laidW_met os _))) ?_
  intro W base args ds gs before hval0 hW _ hcond _ hL _ _
  have htab : Tab W := tab_of_laid13 hL
  clear hL
  have hk := hcond _ rfl
  have hval : ∀ (j : Nat) t v, Tryz.f4.params[j]? = some t → args[j]? = some v → Value.okWide Tryz.prog W .any base t v := hval0
  have hW' := hW
  obtain ⟨p, q, hA0, hV, rfl, hfz, hnd⟩ := hW
  have hA : DataW.TrodAll enc Tryz.prog W 0 (fun _ => true) true Tryz.f4.params.toList args.toList ds p := hA0
  rw [Tryz.params4] at hA hval
  obtain ⟨v0, vs0, d0, ds0, p0, q0, hargs, rfl, rfl, h0, r0⟩ := trodAll_cons hA
  obtain ⟨v1, vs1, d1, ds1, p1, q1, rfl, rfl, rfl, h1, r1⟩ := trodAll_cons r0
  obtain ⟨rfl, rfl, rfl⟩ := trodAll_nil r1
  obtain rfl : args = #[v0, v1] := by cases args; simp_all
  obtain ⟨rfl, rfl⟩ := trodVars_none hV
  obtain ⟨cs0, rfl, hcs0⟩ := okWide_struct Tryz.underlying30 (hval 0 30 v0 rfl rfl)
  obtain ⟨x0, c00, c01, c02, c03, c04, rfl, ob0, hbk⟩ := open_objB h0 (fun _ => rfl)
  have lt0 : ∀ x ∈ p0, x.block < W.heap.size := by obtain ⟨m, hm⟩ := h0; exact DataW.trod_lt m _ _ _ hm
  obtain ⟨A1, n1, c1, rfl⟩ := okWide_slice Tryz.underlying23 (hval 1 23 v1 rfl rfl)
  obtain ⟨zs1, by1, mx1⟩ := open_bytes h1 (fun _ => rfl)
  have hmx : maxLen = 9223372036854775807 := by decide
  have lt1 : ∀ x ∈ p1, x.block < W.heap.size := by obtain ⟨m, hm⟩ := h1; exact DataW.trod_lt m _ _ _ hm
  have hsm : bkO x0 ≤ 1048576 := by
    have h := of_decide_eq_true hk
    simp only [List.append_nil, Rows.uptoBulkAll] at h
    omega
  clear hA0 hval0
  refine (pvals_walk x0 c00 c01 c02 c03 c04 A1 n1 c1 zs1 W htab ob0 (by omega) by1 (by have := by1.cap; omega)).mono fun e W' ⟨he, bel⟩ => ?_
  subst he
  exact ⟨_, rfl, _, _, _, [], _, [], hW', trodAll_mk1 (shut_bool Tryz.underlying4 _), (trodAll_cons_mk (Below.trod laidOut (by kernel_rfl) (of_decide_eq_true (by kernel_rfl)) h0 bel lt0) (trodAll_cons_mk (Below.trod laidOut (by kernel_rfl) (of_decide_eq_true (by kernel_rfl)) h1 bel lt1) trodAll_mk0)), rfl, bel.frame _, fun h => by cases h⟩
theorem pvals_said : Rows.PrintValuesUptoSaid :=
  OpenClaim.holds_of_cond 4 Tryz.f4 rfl rfl rfl rfl rfl rfl rfl ⟨rfl, rfl, rfl, rfl, rfl⟩ rfl rfl rfl rfl rfl (by kernel_rfl) Tryz.func4 (by kernel_rfl)
    (of_decide_eq_true (by kernel_rfl)) (by unfold Func.isWrapper; first | (rw [if_pos (by decide +kernel)]; kernel_rfl) | (rw [if_neg (by decide +kernel)]; exact ⟨rfl, rfl⟩))
    (fun os started H enc _ F => by rw [OpenClaim.pre_eq_preRow]; exact pvals_lifted os started H enc F)
/-- The card of PrintValues, where what comes in is of the bulk that the row names. -/
theorem pvals_card : Rows.PrintValuesUptoCardSaid :=
  Claim7.holds_tied_plain_at .later [] _ _ _ _ pvals_said (fun _ h => by cases h) (by kernel_rfl) (fun _ h => by cases h) printValuesUpto_row_tie rfl ⟨rfl, rfl⟩ (by kernel_rfl) rfl
    (fun f fn hf hfn => by
      obtain rfl : f = 4 := Option.some.inj ((show Tryz.prog.funcNamed "pressmark/pressmarklaw13.PrintValues" = some 4 by kernel_rfl).symm.trans hf) |>.symm
      obtain rfl : fn = Tryz.f4 := (Option.some.inj (Tryz.func4.symm.trans hfn)).symm
      exact ⟨by kernel_rfl, fun j t ht => by
        rw [Tryz.params4] at ht
        have hm : t ∈ [30, 23] := by simpa using Array.mem_of_getElem? ht
        have hall : ([30, 23].all fun u => !Tryz.prog.wantsStandIn u) = true := by kernel_rfl
        exact (show Tryz.prog.wantsStandIn t = false by simpa using List.all_eq_true.1 hall t hm)⟩)
    (by kernel_rfl)
#print axioms pvals_card
end Go.Proofs.YtliieeagbpmcgaaGreatDoor
