/- CosMay: any object: whether it may be, how deep it is, what it names. Where what comes in is small. -/
import Derived.JoinedCond
import Derived.Test.YtdkmomdioiipjaaCmy24
namespace Go.Proofs.Ytdkmomdioiipjaa
open Go.ChangeShapes Go.WideShapes Go.ChangeAt Go.RowKit Go.Deep
set_option linter.unusedVariables false
set_option maxRecDepth 100000
set_option maxHeartbeats 8000000 in
theorem cmay_walk (x : Ob) (a0 a1 a2 a3 a4 : Value) (w : World) (hx : ObR w (fun g => g < w.heap.size) x a0 a1 a2 a3 a4) (hbk : bkO x ≤ 100000000) :
    Calls Try.prog 4 #[.agg #[a0, a1, a2, a3, a4]] w fun e w' => e = .returned (.bool true) ∧ Below w.heap.size w w' := by
  obtain ⟨k9, n9, A29, m29, c29, A39, m39, c39, A49, m49, c49, rfl, rfl, rfl, rfl, rfl⟩ := hx.form
  obtain ⟨hok, hht, hrl, hsz, -⟩ := bkO_all x hbk
  have hdp := depthO_sz x
  have hb2 := (Below.refl w.heap.size w).alloc (Nat.le_refl _) (.cells #[.int .i64 k9, .int .i64 n9, .slice A29 m29 c29, .slice A39 m39 c39, .slice A49 m49 c49] 27)
  have hn2 := heap_alloc_new w (.cells #[.int .i64 k9, .int .i64 n9, .slice A29 m29 c29, .slice A39 m39 c39, .slice A49 m49 c49] 27)
  obtain ⟨W2, hW2⟩ : ∃ W2, w.alloc (.cells #[.int .i64 k9, .int .i64 n9, .slice A29 m29 c29, .slice A39 m39 c39, .slice A49 m49 c49] 27) = W2 := ⟨_, rfl⟩
  have hs2 : W2.heap.size = w.heap.size + 1 := by rw [← hW2]; simp
  rw [hW2] at hb2 hn2
  have HX : Hid (∀ W, Below w.heap.size w W → ObR W (fun g => g < w.heap.size) x (.int .i64 k9) (.int .i64 n9) (.slice A29 m29 c29) (.slice A39 m39 c39) (.slice A49 m49 c49)) := Lib.hid (fun W hW => ObR.keep (fun g hg => hW.block g hg) (fun _ h => h) x hx)
  have HBW : Hid (∀ W, Below W2.heap.size W2 W → Below w.heap.size w W) := Lib.hid (fun W hW => hb2.trans (hW.mono (by omega)))
  have HEL : Hid (∀ W, Below W2.heap.size W2 W → W.cell? ⟨w.heap.size, 0, none⟩ = some (.int .i64 k9) ∧ W.cell? ⟨w.heap.size, 1, none⟩ = some (.int .i64 n9) ∧ W.cell? ⟨w.heap.size, 2, none⟩ = some (.slice A29 m29 c29) ∧ W.cell? ⟨w.heap.size, 3, none⟩ = some (.slice A39 m39 c39) ∧ W.cell? ⟨w.heap.size, 4, none⟩ = some (.slice A49 m49 c49)) := Lib.hid (fun W hW => by
    have e1 := (hW.block w.heap.size (by omega)).trans hn2
    exact ⟨cell_of_row _ _ 0 _ _ (0, 0) e1, cell_of_row _ _ 1 _ _ (0, 0) e1, cell_of_row _ _ 2 _ _ (0, 0) e1, cell_of_row _ _ 3 _ _ (0, 0) e1, cell_of_row _ _ 4 _ _ (0, 0) e1⟩)
  have HAW := Lib.hid (awake_any10 W2)
  obtain ⟨RX, hRX⟩ : ∃ RX, roomO x 40 60 = RX := ⟨_, rfl⟩
  obtain ⟨MB, hMB⟩ : ∃ MB, mayO x 28 = MB := ⟨_, rfl⟩
  obtain ⟨DP, hDP⟩ : ∃ DP, depthO x = DP := ⟨_, rfl⟩
  obtain ⟨RR, hRR⟩ : ∃ RR, refsO x = RR := ⟨_, rfl⟩
  have HRL : Hid (RR.length ≤ 1000000000) := Lib.hid (by rw [← hRR]; omega)
  have HRX : Hid (∀ W, Below W2.heap.size W2 W → Calls Try.prog 25 #[.agg #[.int .i64 k9, .int .i64 n9, .slice A29 m29 c29, .slice A39 m39 c39, .slice A49 m49 c49], .int .i64 40, .int .i64 60] W fun r w' => r = .returned (.bool RX) ∧ Below W.heap.size W w') := Lib.hid (fun W hW => by
    have h := roomC _ x (Nat.le_refl _) (fun g => g < w.heap.size) W _ _ _ _ _ 40 60 (HX.out W (HBW.out W hW)) (fun g hg => Nat.lt_of_lt_of_le hg (HBW.out W hW).size) (by omega)
    rw [hRX] at h
    exact h)
  have HMP : Hid (∀ W, Below W2.heap.size W2 W → Calls Try.prog 15 #[.agg #[.int .i64 k9, .int .i64 n9, .slice A29 m29 c29, .slice A39 m39 c39, .slice A49 m49 c49]] W fun r w' => r = .returned (.bool MB) ∧ Below W.heap.size W w') := Lib.hid (fun W hW => by
    have h := pMayC x (fun g => g < w.heap.size) W _ _ _ _ _ (HX.out W (HBW.out W hW)) (fun g hg => Nat.lt_of_lt_of_le hg (HBW.out W hW).size) hok (by omega)
    rw [hMB] at h
    exact h)
  have HMR : Hid (∀ W, Below W2.heap.size W2 W → Calls Try.prog 26 #[.agg #[.int .i64 k9, .int .i64 n9, .slice A29 m29 c29, .slice A39 m39 c39, .slice A49 m49 c49]] W fun r w' => r = .returned (.bool MB) ∧ Below W.heap.size W w') := Lib.hid (fun W hW => by
    have h := mayTopC x (fun g => g < w.heap.size) W _ _ _ _ _ (HX.out W (HBW.out W hW)) (fun g hg => Nat.lt_of_lt_of_le hg (HBW.out W hW).size)
    rw [hMB] at h
    exact h)
  have HDP : Hid (∀ W, Below W2.heap.size W2 W → Calls Try.prog 16 #[.agg #[.int .i64 k9, .int .i64 n9, .slice A29 m29 c29, .slice A39 m39 c39, .slice A49 m49 c49]] W fun r w' => r = .returned (.int .i64 (DP : Int)) ∧ Below W.heap.size W w') := Lib.hid (fun W hW => by
    have h := pDepthC x (fun g => g < w.heap.size) W _ _ _ _ _ (HX.out W (HBW.out W hW)) (fun g hg => Nat.lt_of_lt_of_le hg (HBW.out W hW).size) hok (by omega)
    rw [hDP] at h
    exact h)
  have HDR : Hid (∀ W, Below W2.heap.size W2 W → Calls Try.prog 27 #[.agg #[.int .i64 k9, .int .i64 n9, .slice A29 m29 c29, .slice A39 m39 c39, .slice A49 m49 c49]] W fun r w' => r = .returned (.int .i64 (DP : Int)) ∧ Below W.heap.size W w') := Lib.hid (fun W hW => by
    have h := depthC _ x (Nat.le_refl _) (by omega) (fun g => g < w.heap.size) W _ _ _ _ _ (HX.out W (HBW.out W hW)) (fun g hg => Nat.lt_of_lt_of_le hg (HBW.out W hW).size)
    rw [hDP] at h
    exact h)
  have HRP : Hid (∀ W, Below W2.heap.size W2 W → Calls Try.prog 14 #[.agg #[.int .i64 k9, .int .i64 n9, .slice A29 m29 c29, .slice A39 m39 c39, .slice A49 m49 c49]] W fun r w' => (∃ v, r = .returned v ∧ OwnV w' W.heap.size 3 v (RR.map (fun z => Value.int .i64 z))) ∧ Below W.heap.size W w') := Lib.hid (fun W hW => by
    have h := pRefsC x (fun g => g < w.heap.size) W _ _ _ _ _ (HX.out W (HBW.out W hW)) (fun g hg => Nat.lt_of_lt_of_le hg (HBW.out W hW).size) hok (by omega) (by omega)
    rw [hRR] at h
    exact h)
  have HRR : Hid (∀ W, Below W2.heap.size W2 W → Calls Try.prog 28 #[.agg #[.int .i64 k9, .int .i64 n9, .slice A29 m29 c29, .slice A39 m39 c39, .slice A49 m49 c49]] W fun r w' => (∃ v, r = .returned v ∧ OwnV w' W.heap.size 3 v (RR.map (fun z => Value.int .i64 z))) ∧ Below W.heap.size W w') := Lib.hid (fun W hW => by
    have h := rRefsC _ x (Nat.le_refl _) (by omega) (fun g => g < w.heap.size) W _ _ _ _ _ (HX.out W (HBW.out W hW)) (fun g hg => Nat.lt_of_lt_of_le hg (HBW.out W hW).size)
    rw [hRR] at h
    exact h)
  have HW2 := Lib.hid hW2
  clear hx hok hht hrl hsz hdp hb2 hn2 hs2 hW2 hRX hMB hDP hRR HX hbk
  go_enter Try.func4, Try.ntmps4
  go_upto_region 1 with fail
  rw [HW2.out]
  go_upto_region 3 with (go_at_call 8; (with_reducible refine HAW.out.mono ?_); (rintro r w0 ⟨rfl, hb0⟩); have HC := Lib.hid hb0; clear hb0)
  obtain ⟨q0, q1, q2, q3, q4⟩ := HEL.out _ HC.out
  cases RX
  · go_wp2_with (go_at_call 25; (with_reducible refine (HRX.out _ HC.out).mono ?_); (rintro r w5 ⟨rfl, hb5⟩); have HC' := Lib.hid (HC.out.trans (hb5.mono HC.out.size)); clear HC hb5 q0 q1 q2 q3 q4; have HC := HC'; clear HC'; (obtain ⟨q0, q1, q2, q3, q4⟩ := HEL.out _ HC.out))
    go_ret
    exact ⟨rfl, HBW.out _ HC.out⟩
  go_upto_region 5 with (go_at_call 25; (with_reducible refine (HRX.out _ HC.out).mono ?_); (rintro r w5 ⟨rfl, hb5⟩); have HC' := Lib.hid (HC.out.trans (hb5.mono HC.out.size)); clear HC hb5 q0 q1 q2 q3 q4; have HC := HC'; clear HC'; (obtain ⟨q0, q1, q2, q3, q4⟩ := HEL.out _ HC.out))
  clear q0 q1 q2 q3 q4 HRX HAW
  have HC' := Lib.hid HC.out.drew
  clear HC
  have HC := HC'
  clear HC'
  cases MB
  all_goals
    refine wp_region_heldR (fun W => W.cell? ⟨w.heap.size, 0, none⟩ = some (.int .i64 k9) ∧ W.cell? ⟨w.heap.size, 1, none⟩ = some (.int .i64 n9) ∧ W.cell? ⟨w.heap.size, 2, none⟩ = some (.slice A29 m29 c29) ∧ W.cell? ⟨w.heap.size, 3, none⟩ = some (.slice A39 m39 c39) ∧ W.cell? ⟨w.heap.size, 4, none⟩ = some (.slice A49 m49 c49)) 1000 (by kernel_rfl) (HEL.out _ HC.out) (fun hHeld => ?_)
    refine wpAnyR_take 0 rfl (by kernel_rfl) (by kernel_rfl) (by kernel_rfl) (by kernel_rfl) (fun _ _ _ h => h) (by rfl) (v := ?_) ?_ (by assumption) ?_
    rotate_left
    focus
      intro wS hSw
      (try dsimp only at hSw)
      go_simp
      (try simp only [hSw])
      try with_reducible rfl
    intro hHeld
    try simp only [Act.put, List.setIfInBounds_toArray, List.set_cons_zero, List.set_cons_succ]
    refine wpAnyR_take 2 rfl (by kernel_rfl) (by kernel_rfl) (by kernel_rfl) (by kernel_rfl) (fun _ _ _ h => h) (by rfl) (v := ?_) ?_ (by assumption) ?_
    rotate_left
    focus
      intro wS hSw
      (try dsimp only at hSw)
      go_simp
      (try simp only [hSw])
      try with_reducible rfl
    intro hHeld
    try simp only [Act.put, List.setIfInBounds_toArray, List.set_cons_zero, List.set_cons_succ]
    refine wpAnyR_step 1 rfl (by kernel_rfl) (fun K hK => ?_)
    go_simp
    go_at_call 15
    refine (HMP.out _ HC.out).mono ?_
    rintro r wX ⟨rfl, hbX⟩
    have HC' := Lib.hid (HC.out.trans (hbX.mono HC.out.size))
    clear HC
    have HC := HC'
    clear HC' hbX
    go_wp2_with fail
    refine hK.out _ _ (HEL.out _ HC.out) (fun hHeld => ?_)
    clear hK K
    try simp only [Act.put, List.setIfInBounds_toArray, List.set_cons_zero, List.set_cons_succ]
    refine wpAnyR_step 3 rfl (by kernel_rfl) (fun K hK => ?_)
    go_simp
    go_at_call 26
    refine (HMR.out _ HC.out).mono ?_
    rintro r wX ⟨rfl, hbX⟩
    have HC' := Lib.hid (HC.out.trans (hbX.mono HC.out.size))
    clear HC
    have HC := HC'
    clear HC' hbX
    go_wp2_with fail
    refine hK.out _ _ (HEL.out _ HC.out) (fun hHeld => ?_)
    clear hK K
    try simp only [Act.put, List.setIfInBounds_toArray, List.set_cons_zero, List.set_cons_succ]
    refine wpAnyR_take 4 rfl (by kernel_rfl) (by kernel_rfl) (by kernel_rfl) (by kernel_rfl) (fun _ _ _ h => h) (by rfl) (v := ?_) ?_ (by assumption) ?_
    rotate_left
    focus
      intro wS hSw
      (try dsimp only at hSw)
      go_simp
      (try simp only [hSw])
      try with_reducible rfl
    intro hHeld
    try simp only [Act.put, List.setIfInBounds_toArray, List.set_cons_zero, List.set_cons_succ]
    refine wpAnyR_take 5 rfl (by kernel_rfl) (by kernel_rfl) (by kernel_rfl) (by kernel_rfl) (fun _ _ _ h => h) (by rfl) (v := ?_) ?_ (by assumption) ?_
    rotate_left
    focus
      intro wS hSw
      (try dsimp only at hSw)
      go_simp
      (try simp only [hSw])
      try with_reducible rfl
    intro hHeld
    try simp only [Act.put, List.setIfInBounds_toArray, List.set_cons_zero, List.set_cons_succ]
    refine wpAnyR_take 6 rfl (by kernel_rfl) (by kernel_rfl) (by kernel_rfl) (by kernel_rfl) (fun _ _ _ h => h) (by rfl) (v := ?_) ?_ (by assumption) ?_
    rotate_left
    focus
      intro wS hSw
      (try dsimp only at hSw)
      go_simp
      (try simp only [hSw])
      try with_reducible rfl
    intro hHeld
    try simp only [Act.put, List.setIfInBounds_toArray, List.set_cons_zero, List.set_cons_succ]
    refine wpAnyR_take 8 rfl (by kernel_rfl) (by kernel_rfl) (by kernel_rfl) (by kernel_rfl) (fun _ _ _ h => h) (by rfl) (v := ?_) ?_ (by assumption) ?_
    rotate_left
    focus
      intro wS hSw
      (try dsimp only at hSw)
      go_simp
      (try simp only [hSw])
      try with_reducible rfl
    intro hHeld
    try simp only [Act.put, List.setIfInBounds_toArray, List.set_cons_zero, List.set_cons_succ]
    refine wpAnyR_step 7 rfl (by kernel_rfl) (fun K hK => ?_)
    go_simp
    go_at_call 16
    refine (HDP.out _ HC.out).mono ?_
    rintro r wX ⟨rfl, hbX⟩
    have HC' := Lib.hid (HC.out.trans (hbX.mono HC.out.size))
    clear HC
    have HC := HC'
    clear HC' hbX
    go_wp2_with fail
    refine hK.out _ _ (HEL.out _ HC.out) (fun hHeld => ?_)
    clear hK K
    try simp only [Act.put, List.setIfInBounds_toArray, List.set_cons_zero, List.set_cons_succ]
    refine wpAnyR_step 9 rfl (by kernel_rfl) (fun K hK => ?_)
    go_simp
    go_at_call 27
    refine (HDR.out _ HC.out).mono ?_
    rintro r wX ⟨rfl, hbX⟩
    have HC' := Lib.hid (HC.out.trans (hbX.mono HC.out.size))
    clear HC
    have HC := HC'
    clear HC' hbX
    go_wp2_with fail
    refine hK.out _ _ (HEL.out _ HC.out) (fun hHeld => ?_)
    clear hK K
    try simp only [Act.put, List.setIfInBounds_toArray, List.set_cons_zero, List.set_cons_succ]
    refine wpAnyR_take 10 rfl (by kernel_rfl) (by kernel_rfl) (by kernel_rfl) (by kernel_rfl) (fun _ _ _ h => h) (by rfl) (v := ?_) ?_ (by assumption) ?_
    rotate_left
    focus
      intro wS hSw
      (try dsimp only at hSw)
      go_simp
      (try simp only [hSw])
      try with_reducible rfl
    intro hHeld
    try simp only [Act.put, List.setIfInBounds_toArray, List.set_cons_zero, List.set_cons_succ]
    refine wpAnyR_take 11 rfl (by kernel_rfl) (by kernel_rfl) (by kernel_rfl) (by kernel_rfl) (fun _ _ _ h => h) (by rfl) (v := ?_) ?_ (by assumption) ?_
    rotate_left
    focus
      intro wS hSw
      (try dsimp only at hSw)
      go_simp
      (try simp only [hSw])
      try with_reducible rfl
    intro hHeld
    try simp only [Act.put, List.setIfInBounds_toArray, List.set_cons_zero, List.set_cons_succ]
    refine wpAnyR_take 12 rfl (by kernel_rfl) (by kernel_rfl) (by kernel_rfl) (by kernel_rfl) (fun _ _ _ h => h) (by rfl) (v := ?_) ?_ (by assumption) ?_
    rotate_left
    focus
      intro wS hSw
      (try dsimp only at hSw)
      go_simp
      (try simp only [hSw])
      try with_reducible rfl
    intro hHeld
    try simp only [Act.put, List.setIfInBounds_toArray, List.set_cons_zero, List.set_cons_succ]
    refine wpAnyR_take 13 rfl (by kernel_rfl) (by kernel_rfl) (by kernel_rfl) (by kernel_rfl) (fun _ _ _ h => h) (by rfl) (v := ?_) ?_ (by assumption) ?_
    rotate_left
    focus
      intro wS hSw
      (try dsimp only at hSw)
      go_simp
      (try simp only [hSw])
      try with_reducible rfl
    intro hHeld
    try simp only [Act.put, List.setIfInBounds_toArray, List.set_cons_zero, List.set_cons_succ]
    refine wpAnyR_take 15 rfl (by kernel_rfl) (by kernel_rfl) (by kernel_rfl) (by kernel_rfl) (fun _ _ _ h => h) (by rfl) (v := ?_) ?_ (by assumption) ?_
    rotate_left
    focus
      intro wS hSw
      (try dsimp only at hSw)
      go_simp
      (try simp only [hSw])
      try with_reducible rfl
    intro hHeld
    try simp only [Act.put, List.setIfInBounds_toArray, List.set_cons_zero, List.set_cons_succ]
    refine wpAnyR_step 14 rfl (by kernel_rfl) (fun K hK => ?_)
    go_simp
    go_at_call 14
    refine (HRP.out _ HC.out).mono ?_
    rintro r wA ⟨⟨v, rfl, hown⟩, hbA⟩
    obtain ⟨A, c, rfl, hI⟩ := hown.ints (w' := wA)
    have HIA := Lib.hid hI
    clear hI hown
    have HC' := Lib.hid (HC.out.trans (hbA.mono HC.out.size))
    clear HC
    have HC := HC'
    clear HC' hbA
    go_wp2_with fail
    refine hK.out _ _ (HEL.out _ HC.out) (fun hHeld => ?_)
    clear hK K
    try simp only [Act.put, List.setIfInBounds_toArray, List.set_cons_zero, List.set_cons_succ]
    refine wpAnyR_step 16 rfl (by kernel_rfl) (fun K hK => ?_)
    go_simp
    go_at_call 28
    refine (HRR.out _ HC.out).mono ?_
    rintro r wB ⟨⟨v, rfl, hown⟩, hbB⟩
    obtain ⟨A2, c2, rfl, hI⟩ := hown.ints (w' := wB)
    have HIB := Lib.hid (And.intro (HIA.out wB hbB) (hI wB (Below.refl _ _)))
    clear hI hown HIA
    have HC' := Lib.hid (HC.out.trans (hbB.mono HC.out.size))
    clear HC
    have HC := HC'
    clear HC' hbB
    go_wp2_with fail
    refine hK.out _ _ (HEL.out _ HC.out) (fun hHeld => ?_)
    clear hK K
    try simp only [Act.put, List.setIfInBounds_toArray, List.set_cons_zero, List.set_cons_succ]
    refine wpAnyR_step 17 rfl (by kernel_rfl) (fun K hK => ?_)
    go_simp
    go_at_call 13
    refine (intsC RR _ _ _ _ _ HIB.out.1 HIB.out.2 HRL.out).mono ?_
    rintro r wX ⟨rfl, hbX⟩
    have HC' := Lib.hid (HC.out.trans (hbX.mono HC.out.size))
    clear HC
    have HC := HC'
    clear HC' hbX
    go_wp2_with fail
    refine hK.out _ _ (HEL.out _ HC.out) (fun hHeld => ?_)
    clear hK K
    try simp only [Act.put, List.setIfInBounds_toArray, List.set_cons_zero, List.set_cons_succ]
    refine wpAnyR_take 18 rfl (by kernel_rfl) (by kernel_rfl) (by kernel_rfl) (by kernel_rfl) (fun _ _ _ h => h) (by rfl) (v := ?_) ?_ (by assumption) ?_
    rotate_left
    focus
      intro wS hSw
      (try dsimp only at hSw)
      go_simp
      (try simp only [hSw])
      try with_reducible rfl
    intro hHeld
    try simp only [Act.put, List.setIfInBounds_toArray, List.set_cons_zero, List.set_cons_succ]
    refine wpAnyR_take 19 rfl (by kernel_rfl) (by kernel_rfl) (by kernel_rfl) (by kernel_rfl) (fun _ _ _ h => h) (by rfl) (v := ?_) ?_ (by assumption) ?_
    rotate_left
    focus
      intro wS hSw
      (try dsimp only at hSw)
      go_simp
      (try simp only [hSw])
      try with_reducible rfl
    intro hHeld
    try simp only [Act.put, List.setIfInBounds_toArray]
    refine wpAnyR_done (by kernel_rfl) ?_
    refine NoPanic.normal ?_
    go_wp2_with fail
    go_ret
    exact ⟨rfl, HBW.out _ HC.out⟩
set_option maxRecDepth 100000 in
theorem cmay_lifted (os : Os) (started : os.Started) (H : Type) (enc : TypeId × Value → H) (F : Stop.Interp) :
    ReturnsInHanded {} Try.checked os 4 .any ((Rows.OpenSpec.upto Rows.cosMaySpec).pre6 enc Try.prog Try.f4 Rows.cosMayUptoRow.domain false) (((Rows.OpenSpec.upto Rows.cosMaySpec).at F).post enc Try.prog Try.f4 false true false false) := by
  refine returnsInHanded_of_cond (C := Try.checked) (s := Rows.OpenSpec.upto Rows.cosMaySpec) (k := Rows.uptoSmall) rfl own started (by kernel_rfl) Try.func4
    (OpenSpec.witness (enc := enc) (C := Try.checked) (s := Rows.OpenSpec.upto Rows.cosMaySpec) (k := Rows.uptoSmall) rfl false ⟨#[], #[.agg #[.int .i64 0, .int .i64 0, .slice none 0 0, .slice none 0 0, .slice none 0 0]], []⟩ 8 (by kernel_rfl) (by kernel_rfl) (by kernel_rfl)
      (x := ([.agg [.lit (.int .i64 0), .lit (.int .i64 0), .nil, .nil, .nil]], [], [])) (by kernel_rfl) rfl (by kernel_rfl)) ?_
  intro W base args ds gs before hval0 hW _ hk _
  have hval : ∀ (j : Nat) t v, Try.f4.params[j]? = some t → args[j]? = some v → Value.okWide Try.prog W .any base t v := hval0
  have hW' := hW
  obtain ⟨p, q, hA0, hV, rfl, hfz, hnd⟩ := hW
  have hA : DataW.TrodAll enc Try.prog W 0 (fun _ => true) true Try.f4.params.toList args.toList ds p := hA0
  rw [Try.params4] at hA hval
  obtain ⟨v0, vs0, d0, ds0, p0, q0, hargs, rfl, rfl, h0, r0⟩ := trodAll_cons hA
  obtain ⟨rfl, rfl, rfl⟩ := trodAll_nil r0
  obtain rfl : args = #[v0] := by cases args; simp_all
  obtain ⟨rfl, rfl⟩ := trodVars_none hV
  obtain ⟨cs0, rfl, hcs0⟩ := okWide_struct Try.underlying27 (hval 0 27 v0 rfl rfl)
  obtain ⟨x0, c00, c01, c02, c03, c04, rfl, ob0, hbk⟩ := open_objB h0 (fun _ => rfl)
  have lt0 : ∀ x ∈ p0, x.block < W.heap.size := by obtain ⟨m, hm⟩ := h0; exact DataW.trod_lt m _ _ _ hm
  have hsm : bkO x0 ≤ 1048576 := by
    have h := of_decide_eq_true hk
    simp only [List.append_nil, Rows.uptoBulkAll] at h
    omega
  clear hA0 hval0
  refine (cmay_walk x0 c00 c01 c02 c03 c04 W ob0 (by omega)).mono fun e W' ⟨he, bel⟩ => ?_
  subst he
  exact ⟨_, rfl, _, _, _, [], _, [], hW', trodAll_mk1 (shut_bool Try.underlying4 _), (trodAll_cons_mk (Below.trod laidOut (by kernel_rfl) (of_decide_eq_true (by kernel_rfl)) h0 bel lt0) trodAll_mk0), rfl, bel.frame _, fun h => by cases h⟩
/-- CosMay, where what comes in is of the bulk that the row names: it answers true. -/
theorem cmay_holds : Rows.CosMayUptoSaid :=
  OpenClaim.holds_of_cond 4 Try.f4 rfl rfl rfl rfl rfl rfl rfl ⟨rfl, rfl, rfl, rfl, rfl⟩ rfl rfl rfl rfl rfl (by kernel_rfl) Try.func4 (by kernel_rfl)
    (of_decide_eq_true (by kernel_rfl)) (by unfold Func.isWrapper; first | (rw [if_pos (by decide +kernel)]; kernel_rfl) | (rw [if_neg (by decide +kernel)]; exact ⟨rfl, rfl⟩))
    (fun os started H enc _ F => cmay_lifted os started H enc F)
#print axioms cmay_holds
end Go.Proofs.Ytdkmomdioiipjaa
