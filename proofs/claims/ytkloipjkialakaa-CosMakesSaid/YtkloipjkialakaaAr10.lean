/- Chapter 10: the document's own Arr. -/
import Derived.Test.YtkloipjkialakaaMk10
namespace Go.Proofs.Ytkloipjkialakaa
open Go.RowKit
set_option linter.unusedVariables false
set_option maxRecDepth 100000

/-- A row of objects, as a slice, in blocks of a kind. -/
def ObsV (w : World) (S : Nat → Prop) (l : Obs) (A : Option Addr) (c : Nat) : Prop := (l.len ≤ c ∧ c ≤ 9223372036854775807) ∧ (0 < l.len → ∃ g o, A = some ⟨g, o, none⟩ ∧ S g ∧ ObsR w S l g o)
theorem ObsV.keep {w w' : World} {S S' : Nat → Prop} {l : Obs} {A : Option Addr} {c : Nat} (h : ObsV w S l A c) (hb : ∀ g, S g → w'.heap[g]? = w.heap[g]?) (hS : ∀ g, S g → S' g) : ObsV w' S' l A c :=
  ⟨h.1, fun h0 => by
    obtain ⟨g, o, e, hg, hx⟩ := h.2 h0
    exact ⟨g, o, e, hS g hg, ObsR.keep hb hS l g o (hS g hg) hg hx⟩⟩
theorem DiS.put3 {w wr : World} {base : Nat} {c0 c1 c2 c3 vD : Value} (h : DiS w wr base c0 c1 c2 c3 vD) (v : Value) : DiS w (wr.setCell ⟨w.heap.size + 1, 3, none⟩ v) base c0 c1 c2 v vD :=
  ⟨h.low.setCell (p := ⟨w.heap.size + 1, 3, none⟩) (Nat.le_succ _) v, (set_blk9 wr (w.heap.size + 1) 3 _ v (by omega)).trans h.res, heap_set wr (w.heap.size + 1) 3 v [c0, c1, c2, c3, vD] _ h.out, h.g1, by simpa [World.setCell] using h.g2⟩
set_option maxHeartbeats 8000000 in
theorem arrC (l : Obs) (Sl : Nat → Prop) (w : World) (AL : Option Addr) (cL : Nat) (hl : ObsV w Sl l AL cL) (hS : ∀ g, Sl g → g < w.heap.size) (hok : okL l) (hll : l.len ≤ 1000000) :
    Calls Try.prog 33 #[.slice AL l.len cL] w (CpP w (.mk 6 0 [] l .nil)) := by
  have hb1 := (Below.refl w.heap.size w).alloc (Nat.le_refl _) (.cells #[.int .i64 0, .int .i64 0, .slice none 0 0, .slice none 0 0, .slice none 0 0] 27)
  have hn1 := heap_alloc_new w (.cells #[.int .i64 0, .int .i64 0, .slice none 0 0, .slice none 0 0, .slice none 0 0] 27)
  obtain ⟨W0, hW0⟩ : ∃ W0, w.alloc (.cells #[.int .i64 0, .int .i64 0, .slice none 0 0, .slice none 0 0, .slice none 0 0] 27) = W0 := ⟨_, rfl⟩
  have hs0 : W0.heap.size = w.heap.size + 1 := by rw [← hW0]; simp
  rw [hW0] at hb1 hn1
  have hb2 := (Below.refl W0.heap.size W0).alloc (Nat.le_refl _) (.cells #[.int .i64 6, .int .i64 0, .slice none 0 0, .slice none 0 0, .slice none 0 0] 27)
  have hn2 := heap_alloc_new W0 (.cells #[.int .i64 6, .int .i64 0, .slice none 0 0, .slice none 0 0, .slice none 0 0] 27)
  obtain ⟨W1, hW1⟩ : ∃ W1, W0.alloc (.cells #[.int .i64 6, .int .i64 0, .slice none 0 0, .slice none 0 0, .slice none 0 0] 27) = W1 := ⟨_, rfl⟩
  have hs1 : W1.heap.size = w.heap.size + 2 := by rw [← hW1]; simp; omega
  rw [hW1] at hb2 hn2
  rw [hs0] at hn2
  have HDI : Hid (DiS w W1 (w.heap.size + 2) (.int .i64 6) (.int .i64 0) (.slice none 0 0) (.slice none 0 0) (.slice none 0 0)) := Lib.hid ⟨hb1.trans (hb2.mono (by omega)), (hb2.block _ (by omega)).trans hn1, hn2, Nat.le_refl _, by omega⟩
  obtain ⟨LL, hLL⟩ : ∃ LL, l.len = LL := ⟨_, rfl⟩
  rw [hLL] at hll ⊢
  have HL := Lib.hid hl
  have HLL := Lib.hid hLL
  have HS := Lib.hid hS
  have HOK := Lib.hid hok
  have HS0 := Lib.hid hs0
  have HWE := Lib.hid hW1
  clear hW1 hb1 hn1 hb2 hn2 hs0 hs1 hl hLL hS hok
  go_enter Try.func33, Try.ntmps33
  go_wp2_with fail
  rw [HWE.out, HS0.out]
  go_loopw [4] (fun iv wr => ∃ (i cV : Nat) (AV : Option Addr), i ≤ LL ∧ iv = .int .i64 i ∧ Hid (DiS w wr (w.heap.size + 2) (.int .i64 6) (.int .i64 0) (.slice none 0 0) (.slice AV i cV) (.slice none 0 0)) ∧ Hid (OwnO noneT wr (w.heap.size + 2) (.slice AV i cV) (l.takeN i))) (fun iv _ => LL - (intOf iv).toNat)
  case atStart => exact ⟨0, 0, none, Nat.zero_le _, rfl, HDI, Lib.hid (by rw [Obs.take_zero]; exact OwnO.nil _ _ _)⟩
  case round =>
    obtain ⟨i, cV, AV, hi, rfl, HDS, HOW⟩ := hrel
    have hww : Below w.heap.size w wr := HDS.out.low
    by_cases hlt : i < LL
    · have hgt := l.get_some i (by rw [HLL.out]; exact hlt)
      obtain ⟨y, hy⟩ := hgt
      obtain ⟨g, o, rfl, hg, hobs⟩ := HL.out.2 (by rw [HLL.out]; omega)
      obtain ⟨d0, d1, d2, d3, d4, k0, k1, k2, k3, k4, hyr⟩ := hobs.get l g o i y hy
      have hgw : g < w.heap.size := HS.out g hg
      have HEL : Hid (∀ W, DiS w W (w.heap.size + 2) (.int .i64 6) (.int .i64 0) (.slice none 0 0) (.slice AV i cV) (.slice none 0 0) → W.cell? ⟨w.heap.size + 1, 3, none⟩ = some (.slice AV i cV) ∧ W.cell? ⟨g, o + i * 5, none⟩ = some d0 ∧ W.cell? ⟨g, o + i * 5 + 1, none⟩ = some d1 ∧ W.cell? ⟨g, o + i * 5 + 2, none⟩ = some d2 ∧ W.cell? ⟨g, o + i * 5 + 3, none⟩ = some d3 ∧ W.cell? ⟨g, o + i * 5 + 4, none⟩ = some d4) := Lib.hid (fun W hW => by
        have e := fun j => World.cell?_of_block (a := ⟨g, j, none⟩) (hW.low.block g hgw)
        exact ⟨cell_of_row _ _ 3 _ _ (0, 0) hW.out, (e _).trans k0, (e _).trans k1, (e _).trans k2, (e _).trans k3, (e _).trans k4⟩)
      have hwd : Below w.heap.size w wr.drew := hww.drew
      have HI := Lib.hid (copyC _ y (Nat.le_refl _) (okL_get l i y HOK.out hy) Sl wr.drew d0 d1 d2 d3 d4 (ObR.keep (fun b hb => hwd.block b (HS.out b hb)) (fun _ h => h) y hyr) (fun b hb => Nat.lt_of_lt_of_le (HS.out b hb) hwd.size))
      have hti : (l.takeN i).len = i := Obs.take_len l i (by rw [HLL.out]; exact hi)
      have HTI := Lib.hid hti
      have HTS := Lib.hid (Obs.take_snoc l i y hy)
      have hli : (i : Int) < LL := by omega
      obtain ⟨m3, m4, m5, m6, m7, m8⟩ := HEL.out wr HDS.out
      obtain ⟨a3, a4, a5, a6, a7, a8⟩ := HEL.out wr.drew HDS.out.drew
      clear hy hobs hyr hti hg hgw k0 k1 k2 k3 k4 hww hwd
      go_upto_region 5 with fail
      refine wp_region_heldR (fun w' => w'.cell? ⟨w.heap.size + 1, 3, none⟩ = some (.slice AV i cV) ∧ w'.cell? ⟨g, o + i * 5, none⟩ = some d0 ∧ w'.cell? ⟨g, o + i * 5 + 1, none⟩ = some d1 ∧ w'.cell? ⟨g, o + i * 5 + 2, none⟩ = some d2 ∧ w'.cell? ⟨g, o + i * 5 + 3, none⟩ = some d3 ∧ w'.cell? ⟨g, o + i * 5 + 4, none⟩ = some d4) 10 (by kernel_rfl) ⟨a3, a4, a5, a6, a7, a8⟩ (fun hHeld => ?_)
      refine wpAnyR_take 0 rfl (by kernel_rfl) (by kernel_rfl) (by kernel_rfl) (by kernel_rfl) (fun _ _ _ h => h) (by rfl) (v := ?_) ?_ (by assumption) ?_
      rotate_left
      focus
        intro wS hSw
        (try dsimp only at hSw)
        go_simp
        try with_reducible rfl
      intro hHeld
      try simp only [Act.put, List.setIfInBounds_toArray, List.set_cons_zero, List.set_cons_succ]
      refine wpAnyR_take 1 rfl (by kernel_rfl) (by kernel_rfl) (by kernel_rfl) (by kernel_rfl) (fun _ _ _ h => h) (by rfl) (v := ?_) ?_ (by assumption) ?_
      rotate_left
      focus
        intro wS hSw
        (try dsimp only at hSw)
        go_simp
        try with_reducible rfl
      intro hHeld
      try simp only [Act.put, List.setIfInBounds_toArray, List.set_cons_zero, List.set_cons_succ]
      refine wpAnyR_take 2 rfl (by kernel_rfl) (by kernel_rfl) (by kernel_rfl) (by kernel_rfl) (fun _ _ _ h => h) (by rfl) (v := ?_) ?_ (by assumption) ?_
      rotate_left
      focus
        intro wS hSw
        (try dsimp only at hSw)
        go_simp
        try with_reducible rfl
      intro hHeld
      try simp only [Act.put, List.setIfInBounds_toArray, List.set_cons_zero, List.set_cons_succ]
      refine wpAnyR_take 3 rfl (by kernel_rfl) (by kernel_rfl) (by kernel_rfl) (by kernel_rfl) (fun _ _ _ h => h) (by rfl) (v := ?_) ?_ (by assumption) ?_
      rotate_left
      focus
        intro wS hSw
        (try dsimp only at hSw)
        go_simp
        try with_reducible rfl
      intro hHeld
      try simp only [Act.put, List.setIfInBounds_toArray, List.set_cons_zero, List.set_cons_succ]
      refine wpAnyR_take 4 rfl (by kernel_rfl) (by kernel_rfl) (by kernel_rfl) (by kernel_rfl) (fun _ _ _ h => h) (by rfl) (v := ?_) ?_ (by assumption) ?_
      rotate_left
      focus
        intro wS hSw
        (try dsimp only at hSw)
        go_simp
        try with_reducible rfl
      intro hHeld
      try simp only [Act.put, List.setIfInBounds_toArray, List.set_cons_zero, List.set_cons_succ]
      refine wpAnyR_take 5 rfl (by kernel_rfl) (by kernel_rfl) (by kernel_rfl) (by kernel_rfl) (fun _ _ _ h => h) (by rfl) (v := ?_) ?_ (by assumption) ?_
      rotate_left
      focus
        intro wS hSw
        (try dsimp only at hSw)
        go_simp
        try with_reducible rfl
      intro hHeld
      try simp only [Act.put, List.setIfInBounds_toArray, List.set_cons_zero, List.set_cons_succ]
      refine wpAnyR_step 6 rfl (by kernel_rfl) (fun K hK => ?_)
      go_simp
      go_at_call 36
      refine HI.out.mono ?_
      rintro r w2 ⟨e0, e1, e2, e3, e4, rfl, hy2, hb2⟩
      have HAP := Lib.hid (HOW.out.drew.lit hb2 y hy2 (by rw [HTI.out]; omega) HDS.out.drew.g2 (fun _ h => h.elim))
      have HD2 := Lib.hid (HDS.out.drew.step (hb2.mono HDS.out.drew.g2))
      obtain ⟨p3, p4, p5, p6, p7, p8⟩ := HEL.out w2 HD2.out
      clear hy2 hb2
      go_wp2_with fail
      refine hK.out _ _ (⟨p3, p4, p5, p6, p7, p8⟩) (fun hHeld => ?_)
      clear hK K
      try simp only [Act.put, List.setIfInBounds_toArray, List.set_cons_zero, List.set_cons_succ]
      refine wpAnyR_step 7 rfl (by kernel_rfl) (fun K hK => ?_)
      go_simp
      refine hK.out _ _ (by go_keep) (fun hHeld => ?_)
      clear hK K
      try simp only [Act.put, List.setIfInBounds_toArray, List.set_cons_zero, List.set_cons_succ]
      refine wpAnyR_step 8 rfl (by kernel_rfl) (fun K hK => ?_)
      obtain ⟨A6, c6, w3, hrun, ho6, hb6⟩ := HAP.out
      rw [HTI.out] at hrun ho6
      refine step_append_run9 rfl (.tmp 13) (.tmp 19) 24 rfl (.slice AV i cV) (.slice (some ⟨w2.heap.size, 0, none⟩) 1 1) rfl rfl hrun ?_
      have HD3 := Lib.hid (HD2.out.step hb6)
      have fz : w3.frozen? ⟨w.heap.size + 1, 3, none⟩ = false := by (have := HD3.out.out; simp [World.frozen?, this])
      obtain ⟨r3, r4, r5, r6, r7, r8⟩ := HEL.out w3 HD3.out
      have HD4 := Lib.hid (HD3.out.put3 (.slice A6 (i + 1) c6))
      have HOW4 := Lib.hid (OwnO.keepB ho6 ((Only.refl (w.heap.size + 1) w3).set_ 3 (.slice A6 (i + 1) c6)) (by omega) (fun h => h))
      rw [← HTS.out] at HOW4
      clear hrun ho6 hb6
      refine hK.out _ _ (⟨r3, r4, r5, r6, r7, r8⟩) (fun hHeld => ?_)
      clear hK K
      try simp only [Act.put, List.setIfInBounds_toArray, List.set_cons_zero, List.set_cons_succ]
      refine wpAnyR_take 9 rfl (by kernel_rfl) (by kernel_rfl) (by kernel_rfl) (by kernel_rfl) (fun _ _ _ h => h) (by rfl) (v := ?_) ?_ (by assumption) ?_
      rotate_left
      focus
        intro wS hSw
        (try dsimp only at hSw)
        go_simp
        try with_reducible rfl
      intro hHeld
      try simp only [Act.put, List.setIfInBounds_toArray, List.set_cons_zero, List.set_cons_succ]
      refine wpAnyR_last rfl (by kernel_rfl) (by kernel_rfl) (fun K hK => ?_)
      go_simp
      refine hK.out _ _ ?_
      clear hK K
      refine NoPanic.normal ?_
      go_wp2_with fail
      go_roundw
      case rel => exact ⟨i + 1, c6, A6, by omega, by go_num, HD4, HOW4⟩
      case measure => simp [intOf]; omega
    · obtain rfl : LL = i := by omega
      have hOW := HOW.out
      rw [show l.takeN LL = l by rw [← HLL.out]; exact Obs.take_all l] at hOW
      obtain ⟨AX, cX, eX, hcX, hxX⟩ := hOW.shape
      obtain ⟨rfl, hLX, rfl⟩ : AV = AX ∧ LL = l.len ∧ cV = cX := by
        injection eX with e1 e2 e3
        exact ⟨e1, e2, e3⟩
      have HCX := Lib.hid hcX
      have HXX := Lib.hid hxX
      have g0 : wr.cell? ⟨w.heap.size + 1, 0, none⟩ = some (.int .i64 6) := cell_of_row _ _ 0 _ _ (0, 0) HDS.out.out
      have g1 : wr.cell? ⟨w.heap.size + 1, 1, none⟩ = some (.int .i64 0) := cell_of_row _ _ 1 _ _ (0, 0) HDS.out.out
      have g2 : wr.cell? ⟨w.heap.size + 1, 2, none⟩ = some (.slice none 0 0) := cell_of_row _ _ 2 _ _ (0, 0) HDS.out.out
      have g3 : wr.cell? ⟨w.heap.size + 1, 3, none⟩ = some (.slice AV LL cV) := cell_of_row _ _ 3 _ _ (0, 0) HDS.out.out
      have g4 : wr.cell? ⟨w.heap.size + 1, 4, none⟩ = some (.slice none 0 0) := cell_of_row _ _ 4 _ _ (0, 0) HDS.out.out
      obtain ⟨q0, q1, q2, q3, q4, q5⟩ := zero_cells HDS.out.res
      clear hOW eX hcX hxX hLX hlt hww
      go_wp2_with fail
      refine bodyPost_ret (results_cell_row rfl _ _ w.heap.size 27 _ (0, 0) _ rfl (set5_row HDS.out.res) Try.underlying27 rfl (by kernel_rfl)) rfl ?_
      refine ⟨_, _, _, _, _, rfl, ?_, below_set5 HDS.out.low (Nat.le_refl _)⟩
      unfold ObR
      refine ⟨rfl, rfl, by omega, by omega, ⟨none, 0, 0, rfl, bytS_nil _ _⟩, ⟨AV, cV, by rw [HLL.out], HCX.out, fun h0 => ?_⟩, ⟨none, 0, rfl, by simp [Ens.len], fun h => absurd h (by simp [Ens.len])⟩⟩
      obtain ⟨g, o, e, hg, hx⟩ := HXX.out h0
      have key0 : ∀ b, (noneT b ∨ w.heap.size + 2 ≤ b) ∧ b < wr.heap.size → w.heap.size + 2 ≤ b := fun b hb => by
        rcases hb.1 with h | h
        · exact h.elim
        · exact h
      have key : ∀ b, (noneT b ∨ w.heap.size + 2 ≤ b) ∧ b < wr.heap.size → w.heap.size ≤ b ∧ b < (((((wr.setCell ⟨w.heap.size, 0, none⟩ (.int .i64 6)).setCell ⟨w.heap.size, 1, none⟩ (.int .i64 0)).setCell ⟨w.heap.size, 2, none⟩ (.slice none 0 0)).setCell ⟨w.heap.size, 3, none⟩ (.slice AV LL cV)).setCell ⟨w.heap.size, 4, none⟩ (.slice none 0 0)).heap.size := fun b hb => by
        rw [size_set5]
        exact ⟨by have := key0 b hb; omega, hb.2⟩
      exact ⟨g, o, e, key g hg, ObsR.keep (fun b hb => heap_set5 (by have := key0 b hb; omega)) key l g o (key g hg) hg hx⟩
end Go.Proofs.Ytkloipjkialakaa
