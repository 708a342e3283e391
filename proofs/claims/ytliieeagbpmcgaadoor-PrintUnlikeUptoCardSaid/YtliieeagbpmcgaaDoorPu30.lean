/- Contracts of functions that the law calls, and what they lean on (a part). -/
import Derived.Test.YtliieeagbpmcgaaDoorPu20
namespace Go.Proofs.YtliieeagbpmcgaaDoor
section
open Go.RowKit
set_option linter.unusedVariables false
set_option maxRecDepth 100000
set_option maxHeartbeats 4000000 in
theorem same_dic (N : Nat) (hIH : SameIH N) (k n : Int) (b : List Int) (l : Obs) (d : Ens) (hN : (Ob.mk k n b l d).sz ≤ N + 1) (k2 n2 : Int) (b2 : List Int) (l2 : Obs) (d2 : Ens) (hkk : k = k2) (hc : k = 7) (S : Nat → Prop) (w : World) (c0 c1 c2 c3 c4 e0 e1 e2 e3 e4 : Value) (hx : ObR w S (.mk k n b l d) c0 c1 c2 c3 c4) (hy : ObR w S (.mk k2 n2 b2 l2 d2) e0 e1 e2 e3 e4) (hS : ∀ g, S g → g < w.heap.size) :
    Calls Tryd.prog 8 #[.agg #[c0, c1, c2, c3, c4], .agg #[e0, e1, e2, e3, e4]] w fun r w' => r = .returned (.bool (sameO (.mk k n b l d) (.mk k2 n2 b2 l2 d2))) ∧ Below w.heap.size w w' := by
  have IH := Lib.hid hIH
  clear hIH
  unfold ObR at hx hy
  obtain ⟨rfl, rfl, hk, hn, ⟨AB, mb, cb, rfl, hB⟩, ⟨AL, cL, rfl, hlc, hl⟩, ⟨AD, cD, rfl, hdc, hd⟩⟩ := hx
  obtain ⟨rfl, rfl, hk2, hn2, ⟨AB2, mb2, cb2, rfl, hB2⟩, ⟨AL2, cL2, rfl, hlc2, hl2⟩, ⟨AD2, cD2, rfl, hdc2, hd2⟩⟩ := hy
  rw [Ob.sz] at hN
  rw [sameO]
  obtain ⟨LL, hLL⟩ : ∃ LL, l.len = LL := ⟨_, rfl⟩
  obtain ⟨DD, hDD⟩ : ∃ DD, d.len = DD := ⟨_, rfl⟩
  obtain ⟨LL2, hLL2⟩ : ∃ LL, l2.len = LL := ⟨_, rfl⟩
  obtain ⟨DD2, hDD2⟩ : ∃ DD, d2.len = DD := ⟨_, rfl⟩
  rw [hLL] at hlc ⊢
  rw [hDD] at hdc ⊢
  rw [hLL2] at hlc2 ⊢
  rw [hDD2] at hdc2 ⊢
  have hb1 := (Below.refl w.heap.size w).alloc (Nat.le_refl _) (.cells #[.int .i64 k, .int .i64 n, .slice AB mb cb, .slice AL LL cL, .slice AD DD cD] 26)
  have hnew := heap_alloc_new w (.cells #[.int .i64 k, .int .i64 n, .slice AB mb cb, .slice AL LL cL, .slice AD DD cD] 26)
  obtain ⟨W0, hW0⟩ : ∃ W1, w.alloc (.cells #[.int .i64 k, .int .i64 n, .slice AB mb cb, .slice AL LL cL, .slice AD DD cD] 26) = W1 := ⟨_, rfl⟩
  have hs0 : W0.heap.size = w.heap.size + 1 := by rw [← hW0]; simp
  rw [hW0] at hb1 hnew
  have hb2 := (Below.refl W0.heap.size W0).alloc (Nat.le_refl _) (.cells #[.int .i64 k2, .int .i64 n2, .slice AB2 mb2 cb2, .slice AL2 LL2 cL2, .slice AD2 DD2 cD2] 26)
  have hnew2 := heap_alloc_new W0 (.cells #[.int .i64 k2, .int .i64 n2, .slice AB2 mb2 cb2, .slice AL2 LL2 cL2, .slice AD2 DD2 cD2] 26)
  obtain ⟨W1, hW1⟩ : ∃ W1, W0.alloc (.cells #[.int .i64 k2, .int .i64 n2, .slice AB2 mb2 cb2, .slice AL2 LL2 cL2, .slice AD2 DD2 cD2] 26) = W1 := ⟨_, rfl⟩
  have hs1 : W1.heap.size = w.heap.size + 2 := by rw [← hW1]; simp; omega
  rw [hW1] at hb2 hnew2
  rw [hs0] at hnew2
  have hnew1 := (hb2.block w.heap.size (by omega)).trans hnew
  have HCHAIN : Hid (∀ wr, Below W1.heap.size W1 wr → Below w.heap.size w wr ∧ wr.heap[w.heap.size]? = some (.cells #[.int .i64 k, .int .i64 n, .slice AB mb cb, .slice AL LL cL, .slice AD DD cD] 26 (0, 0)) ∧ wr.heap[w.heap.size + 1]? = some (.cells #[.int .i64 k2, .int .i64 n2, .slice AB2 mb2 cb2, .slice AL2 LL2 cL2, .slice AD2 DD2 cD2] 26 (0, 0))) := Lib.hid fun wr h => ⟨(hb1.trans (hb2.mono (by omega))).trans (h.mono (by omega)), (h.block w.heap.size (by omega)).trans hnew1, (h.block (w.heap.size + 1) (by omega)).trans hnew2⟩
  have m0 : W1.cell? ⟨w.heap.size, 0, none⟩ = some (.int .i64 k) := cell_of_row _ _ 0 _ _ (0, 0) hnew1
  have q0 : W1.cell? ⟨w.heap.size + 1, 0, none⟩ = some (.int .i64 k2) := cell_of_row _ _ 0 _ _ (0, 0) hnew2
  have m1 : W1.cell? ⟨w.heap.size, 1, none⟩ = some (.int .i64 n) := cell_of_row _ _ 1 _ _ (0, 0) hnew1
  have q1 : W1.cell? ⟨w.heap.size + 1, 1, none⟩ = some (.int .i64 n2) := cell_of_row _ _ 1 _ _ (0, 0) hnew2
  have m2 : W1.cell? ⟨w.heap.size, 2, none⟩ = some (.slice AB mb cb) := cell_of_row _ _ 2 _ _ (0, 0) hnew1
  have q2 : W1.cell? ⟨w.heap.size + 1, 2, none⟩ = some (.slice AB2 mb2 cb2) := cell_of_row _ _ 2 _ _ (0, 0) hnew2
  have m3 : W1.cell? ⟨w.heap.size, 3, none⟩ = some (.slice AL LL cL) := cell_of_row _ _ 3 _ _ (0, 0) hnew1
  have q3 : W1.cell? ⟨w.heap.size + 1, 3, none⟩ = some (.slice AL2 LL2 cL2) := cell_of_row _ _ 3 _ _ (0, 0) hnew2
  have m4 : W1.cell? ⟨w.heap.size, 4, none⟩ = some (.slice AD DD cD) := cell_of_row _ _ 4 _ _ (0, 0) hnew1
  have q4 : W1.cell? ⟨w.heap.size + 1, 4, none⟩ = some (.slice AD2 DD2 cD2) := cell_of_row _ _ 4 _ _ (0, 0) hnew2
  have HS1 := Lib.hid hs1
  have HL := Lib.hid hl
  have HD := Lib.hid hd
  have HL2 := Lib.hid hl2
  have HD2 := Lib.hid hd2
  have HB := Lib.hid hB
  have HB2 := Lib.hid hB2
  have HS := Lib.hid hS
  have HLL := Lib.hid hLL
  have HDD := Lib.hid hDD
  have HLL2 := Lib.hid hLL2
  have HDD2 := Lib.hid hDD2
  have HN := Lib.hid hN
  have HQ : Hid (Below W1.heap.size W1 W1) := Lib.hid (Below.refl _ _)
  clear hl hd hl2 hd2 hS hB hB2 hnew hnew1 hnew2 hb1 hb2 hs1 hLL hDD hLL2 hDD2 hN
  subst hkk
  rw [if_pos rfl]
  rw [if_neg (show ¬ (k = 1 ∨ k = 2 ∨ k = 3 ∨ k = 9) by omega), if_neg (show ¬ (k = 4 ∨ k = 5) by omega), if_neg (show ¬ k = 6 by omega)]
  have k1 : ¬ k = 1 := by omega
  have k2 : ¬ k = 2 := by omega
  have k3 : ¬ k = 3 := by omega
  have k9 : ¬ k = 9 := by omega
  have k4 : ¬ k = 4 := by omega
  have k5 : ¬ k = 5 := by omega
  have c3 : ¬ k = 6 := by omega
  clear m1 q1
  have c4 : k = 7 ∨ k = 8 := .inl hc
  rw [if_pos c4]
  clear k1 k2 k3 k4 k5 k9 c3 m3 q3
  by_cases hlen : DD = DD2
  · subst hlen
    by_cases k8 : k = 8
    · omega
    · obtain rfl : k = 7 := by omega
      rw [if_neg (fun h => k8 h.1)]
      obtain ⟨R, hR⟩ : ∃ R, sameE d d2 = R := ⟨_, rfl⟩
      rw [hR]
      have HR := Lib.hid hR
      clear hR k8 c4
      go_enter Tryd.func8, Tryd.ntmps8
      go_wp2_with fail
      clear m0 q0 m2 q2 m4 q4
      go_loopw [6] (fun iv wr => ∃ i : Nat, i ≤ DD ∧ iv = .int .i64 i ∧ Hid (sameE (d.dropN i) (d2.dropN i) = R) ∧ Hid (Below W1.heap.size W1 wr)) (fun iv _ => DD - (intOf iv).toNat)
      case atStart => exact ⟨0, Nat.zero_le _, rfl, Lib.hid (by rw [← HR.out]; cases d <;> cases d2 <;> rfl), (by first | exact HQ | exact Lib.hid (Below.drewS HQ.out _))⟩
      case round =>
        obtain ⟨i, hi, rfl, HM, HBE⟩ := hrel
        obtain ⟨hww, hbox, hbox2⟩ := HCHAIN.out wr HBE.out
        have m4 : wr.cell? ⟨w.heap.size, 4, none⟩ = some (.slice AD DD cD) := cell_of_row _ _ 4 _ _ (0, 0) hbox
        have q4 : wr.cell? ⟨w.heap.size + 1, 4, none⟩ = some (.slice AD2 DD cD2) := cell_of_row _ _ 4 _ _ (0, 0) hbox2
        by_cases hlt : i < DD
        · have hgt := d.get_some i (by rw [HDD.out]; exact hlt)
          obtain ⟨sy, y, hy⟩ := hgt
          have hgt2 := d2.get_some i (by rw [HDD2.out]; exact hlt)
          obtain ⟨sy2, y2, hy2⟩ := hgt2
          obtain ⟨g, o, rfl, hg, hobs⟩ := HD.out (by rw [HDD.out]; omega)
          obtain ⟨g2, o2, rfl, hg2, hobs2⟩ := HD2.out (by rw [HDD2.out]; omega)
          have hb2 := EnsR.keep (S' := S) (fun b hb => hww.block b (HS.out b hb)) (fun b hb => hb) d g o hg hg hobs
          have hb3 := EnsR.keep (S' := S) (fun b hb => hww.block b (HS.out b hb)) (fun b hb => hb) d2 g2 o2 hg2 hg2 hobs2
          obtain ⟨d0, d1, d2', d3, d4, ks, k0, k1, k2, k3, k4, hyr⟩ := hb2.get d g o i sy y hy
          obtain ⟨f0, f1, f2, f3, f4, js, j0, j1, j2, j3, j4, hyr2⟩ := hb3.get d2 g2 o2 i sy2 y2 hy2
          have hysz := d.get_sz i sy y hy
          have HI : ∀ q, Hid (Calls Tryd.prog 8 #[.agg #[d0, d1, d2', d3, d4], .agg #[f0, f1, f2, f3, f4]] (wr.drewN q) fun r w' => r = .returned (.bool (sameO y y2)) ∧ Below wr.heap.size wr w') := fun q => Lib.hid ((IH.out y (by have := HN.out; omega) y2 S (wr.drewN q) d0 d1 d2' d3 d4 f0 f1 f2 f3 f4 (ObR.keep (w := wr) (w' := wr.drewN q) (S := S) (S' := S) (fun _ _ => rfl) (fun _ h => h) y hyr) (ObR.keep (w := wr) (w' := wr.drewN q) (S := S) (S' := S) (fun _ _ => rfl) (fun _ h => h) y2 hyr2) (fun b hb => Nat.lt_of_lt_of_le (HS.out b hb) hww.size)).mono (fun r w' h => ⟨h.1, (Below.drewS (Below.refl _ wr) q).trans h.2⟩))
          have hm := HM.out
          rw [d.drop_get i sy y hy, d2.drop_get i sy2 y2 hy2, sameE] at hm
          obtain ⟨RY, hRY⟩ : ∃ RY, sameO y y2 = RY := ⟨_, rfl⟩
          rw [hRY] at hm
          have HI2 : ∀ q, Hid (Calls Tryd.prog 8 #[.agg #[d0, d1, d2', d3, d4], .agg #[f0, f1, f2, f3, f4]] (wr.drewN q) fun r w' => r = .returned (.bool RY) ∧ Below wr.heap.size wr w') := by rw [← hRY]; exact HI
          have hli : (i : Int) < DD := by omega
          have HFT : Hid (∀ W, Below wr.heap.size wr W → W.cell? ⟨w.heap.size, 4, none⟩ = some (.slice (some ⟨g, o, none⟩) DD cD) ∧ W.cell? ⟨w.heap.size + 1, 4, none⟩ = some (.slice (some ⟨g2, o2, none⟩) DD cD2) ∧ W.cell? ⟨g, o + i * 6, none⟩ = some (.string sy) ∧ W.cell? ⟨g, o + i * 6 + 1, none⟩ = some d0 ∧ W.cell? ⟨g, o + i * 6 + 2, none⟩ = some d1 ∧ W.cell? ⟨g, o + i * 6 + 3, none⟩ = some d2' ∧ W.cell? ⟨g, o + i * 6 + 4, none⟩ = some d3 ∧ W.cell? ⟨g, o + i * 6 + 5, none⟩ = some d4 ∧ W.cell? ⟨g2, o2 + i * 6, none⟩ = some (.string sy2) ∧ W.cell? ⟨g2, o2 + i * 6 + 1, none⟩ = some f0 ∧ W.cell? ⟨g2, o2 + i * 6 + 2, none⟩ = some f1 ∧ W.cell? ⟨g2, o2 + i * 6 + 3, none⟩ = some f2 ∧ W.cell? ⟨g2, o2 + i * 6 + 4, none⟩ = some f3 ∧ W.cell? ⟨g2, o2 + i * 6 + 5, none⟩ = some f4) := Lib.hid (fun W hW => ⟨(hW.cell (p := ⟨w.heap.size, 4, none⟩) (cell_lt m4)).trans m4, (hW.cell (p := ⟨w.heap.size + 1, 4, none⟩) (cell_lt q4)).trans q4, (hW.cell (p := ⟨g, _, none⟩) (cell_lt ks)).trans ks, (hW.cell (p := ⟨g, _, none⟩) (cell_lt k0)).trans k0, (hW.cell (p := ⟨g, _, none⟩) (cell_lt k1)).trans k1, (hW.cell (p := ⟨g, _, none⟩) (cell_lt k2)).trans k2, (hW.cell (p := ⟨g, _, none⟩) (cell_lt k3)).trans k3, (hW.cell (p := ⟨g, _, none⟩) (cell_lt k4)).trans k4, (hW.cell (p := ⟨g2, _, none⟩) (cell_lt js)).trans js, (hW.cell (p := ⟨g2, _, none⟩) (cell_lt j0)).trans j0, (hW.cell (p := ⟨g2, _, none⟩) (cell_lt j1)).trans j1, (hW.cell (p := ⟨g2, _, none⟩) (cell_lt j2)).trans j2, (hW.cell (p := ⟨g2, _, none⟩) (cell_lt j3)).trans j3, (hW.cell (p := ⟨g2, _, none⟩) (cell_lt j4)).trans j4⟩)
          clear hbox hbox2 hy hy2 hobs hobs2 hb2 hb3 hyr hyr2 hysz hRY hww hg hg2 HI
          by_cases hss : sy = sy2
          · subst hss
            rw [if_pos rfl] at hm
            cases RY
            · rw [if_neg (by decide)] at hm
              subst hm
              go_upto_region 27 with fail
              refine wp_region_heldR (fun w' => w'.cell? ⟨w.heap.size, 4, none⟩ = some (.slice (some ⟨g, o, none⟩) DD cD) ∧ w'.cell? ⟨w.heap.size + 1, 4, none⟩ = some (.slice (some ⟨g2, o2, none⟩) DD cD2) ∧ w'.cell? ⟨g, o + i * 6, none⟩ = some (.string sy) ∧ w'.cell? ⟨g, o + i * 6 + 1, none⟩ = some d0 ∧ w'.cell? ⟨g, o + i * 6 + 2, none⟩ = some d1 ∧ w'.cell? ⟨g, o + i * 6 + 3, none⟩ = some d2' ∧ w'.cell? ⟨g, o + i * 6 + 4, none⟩ = some d3 ∧ w'.cell? ⟨g, o + i * 6 + 5, none⟩ = some d4 ∧ w'.cell? ⟨g2, o2 + i * 6, none⟩ = some (.string sy) ∧ w'.cell? ⟨g2, o2 + i * 6 + 1, none⟩ = some f0 ∧ w'.cell? ⟨g2, o2 + i * 6 + 2, none⟩ = some f1 ∧ w'.cell? ⟨g2, o2 + i * 6 + 3, none⟩ = some f2 ∧ w'.cell? ⟨g2, o2 + i * 6 + 4, none⟩ = some f3 ∧ w'.cell? ⟨g2, o2 + i * 6 + 5, none⟩ = some f4) 1000 (by kernel_rfl) ⟨m4, q4, ks, k0, k1, k2, k3, k4, js, j0, j1, j2, j3, j4⟩ (fun hHeld => ?_)
              refine wpAnyR_take 0 rfl (by kernel_rfl) (by kernel_rfl) (by kernel_rfl) (by kernel_rfl) (fun _ _ _ h => h) (by rfl) (v := ?_) ?_ (by assumption) ?_
              rotate_left
              focus
                intro wS hSw
                (try dsimp only at hSw)
                go_simp
                try with_reducible rfl
              intro hHeld
              try simp only [Act.put, List.setIfInBounds_toArray, List.set_cons_zero, List.set_cons_succ]
              refine wpAnyR_take 1 rfl (by kernel_rfl) (by kernel_rfl) (by kernel_rfl) (by kernel_rfl) (fun _ _ _ h => h) (by rfl) (v := ?_) ?_ (by assumption) ?_
              rotate_left
              focus
                intro wS hSw
                (try dsimp only at hSw)
                go_simp
                try with_reducible rfl
              intro hHeld
              try simp only [Act.put, List.setIfInBounds_toArray, List.set_cons_zero, List.set_cons_succ]
              refine wpAnyR_take 2 rfl (by kernel_rfl) (by kernel_rfl) (by kernel_rfl) (by kernel_rfl) (fun _ _ _ h => h) (by rfl) (v := ?_) ?_ (by assumption) ?_
              rotate_left
              focus
                intro wS hSw
                (try dsimp only at hSw)
                go_simp
                try with_reducible rfl
              intro hHeld
              try simp only [Act.put, List.setIfInBounds_toArray, List.set_cons_zero, List.set_cons_succ]
              refine wpAnyR_take 3 rfl (by kernel_rfl) (by kernel_rfl) (by kernel_rfl) (by kernel_rfl) (fun _ _ _ h => h) (by rfl) (v := ?_) ?_ (by assumption) ?_
              rotate_left
              focus
                intro wS hSw
                (try dsimp only at hSw)
                go_simp
                try with_reducible rfl
              intro hHeld
              try simp only [Act.put, List.setIfInBounds_toArray, List.set_cons_zero, List.set_cons_succ]
              refine wpAnyR_take 4 rfl (by kernel_rfl) (by kernel_rfl) (by kernel_rfl) (by kernel_rfl) (fun _ _ _ h => h) (by rfl) (v := ?_) ?_ (by assumption) ?_
              rotate_left
              focus
                intro wS hSw
                (try dsimp only at hSw)
                go_simp
                try with_reducible rfl
              intro hHeld
              try simp only [Act.put, List.setIfInBounds_toArray, List.set_cons_zero, List.set_cons_succ]
              refine wpAnyR_take 5 rfl (by kernel_rfl) (by kernel_rfl) (by kernel_rfl) (by kernel_rfl) (fun _ _ _ h => h) (by rfl) (v := ?_) ?_ (by assumption) ?_
              rotate_left
              focus
                intro wS hSw
                (try dsimp only at hSw)
                go_simp
                try with_reducible rfl
              intro hHeld
              try simp only [Act.put, List.setIfInBounds_toArray, List.set_cons_zero, List.set_cons_succ]
              refine wpAnyR_take 6 rfl (by kernel_rfl) (by kernel_rfl) (by kernel_rfl) (by kernel_rfl) (fun _ _ _ h => h) (by rfl) (v := ?_) ?_ (by assumption) ?_
              rotate_left
              focus
                intro wS hSw
                (try dsimp only at hSw)
                go_simp
                try with_reducible rfl
              intro hHeld
              try simp only [Act.put, List.setIfInBounds_toArray, List.set_cons_zero, List.set_cons_succ]
              refine wpAnyR_take 7 rfl (by kernel_rfl) (by kernel_rfl) (by kernel_rfl) (by kernel_rfl) (fun _ _ _ h => h) (by rfl) (v := ?_) ?_ (by assumption) ?_
              rotate_left
              focus
                intro wS hSw
                (try dsimp only at hSw)
                go_simp
                try with_reducible rfl
              intro hHeld
              try simp only [Act.put, List.setIfInBounds_toArray, List.set_cons_zero, List.set_cons_succ]
              refine wpAnyR_take 8 rfl (by kernel_rfl) (by kernel_rfl) (by kernel_rfl) (by kernel_rfl) (fun _ _ _ h => h) (by rfl) (v := ?_) ?_ (by assumption) ?_
              rotate_left
              focus
                intro wS hSw
                (try dsimp only at hSw)
                go_simp
                try with_reducible rfl
              intro hHeld
              try simp only [Act.put, List.setIfInBounds_toArray, List.set_cons_zero, List.set_cons_succ]
              refine wpAnyR_take 9 rfl (by kernel_rfl) (by kernel_rfl) (by kernel_rfl) (by kernel_rfl) (fun _ _ _ h => h) (by rfl) (v := ?_) ?_ (by assumption) ?_
              rotate_left
              focus
                intro wS hSw
                (try dsimp only at hSw)
                go_simp
                try with_reducible rfl
              intro hHeld
              try simp only [Act.put, List.setIfInBounds_toArray, List.set_cons_zero, List.set_cons_succ]
              refine wpAnyR_take 10 rfl (by kernel_rfl) (by kernel_rfl) (by kernel_rfl) (by kernel_rfl) (fun _ _ _ h => h) (by rfl) (v := ?_) ?_ (by assumption) ?_
              rotate_left
              focus
                intro wS hSw
                (try dsimp only at hSw)
                go_simp
                try with_reducible rfl
              intro hHeld
              try simp only [Act.put, List.setIfInBounds_toArray, List.set_cons_zero, List.set_cons_succ]
              refine wpAnyR_take 11 rfl (by kernel_rfl) (by kernel_rfl) (by kernel_rfl) (by kernel_rfl) (fun _ _ _ h => h) (by rfl) (v := ?_) ?_ (by assumption) ?_
              rotate_left
              focus
                intro wS hSw
                (try dsimp only at hSw)
                go_simp
                try with_reducible rfl
              intro hHeld
              try simp only [Act.put, List.setIfInBounds_toArray, List.set_cons_zero, List.set_cons_succ]
              refine wpAnyR_take 12 rfl (by kernel_rfl) (by kernel_rfl) (by kernel_rfl) (by kernel_rfl) (fun _ _ _ h => h) (by rfl) (v := ?_) ?_ (by assumption) ?_
              rotate_left
              focus
                intro wS hSw
                (try dsimp only at hSw)
                go_simp
                try with_reducible rfl
              intro hHeld
              try simp only [Act.put, List.setIfInBounds_toArray, List.set_cons_zero, List.set_cons_succ]
              refine wpAnyR_take 13 rfl (by kernel_rfl) (by kernel_rfl) (by kernel_rfl) (by kernel_rfl) (fun _ _ _ h => h) (by rfl) (v := ?_) ?_ (by assumption) ?_
              rotate_left
              focus
                intro wS hSw
                (try dsimp only at hSw)
                go_simp
                try with_reducible rfl
              intro hHeld
              try simp only [Act.put, List.setIfInBounds_toArray, List.set_cons_zero, List.set_cons_succ]
              refine wpAnyR_take 14 rfl (by kernel_rfl) (by kernel_rfl) (by kernel_rfl) (by kernel_rfl) (fun _ _ _ h => h) (by rfl) (v := ?_) ?_ (by assumption) ?_
              rotate_left
              focus
                intro wS hSw
                (try dsimp only at hSw)
                go_simp
                try with_reducible rfl
              intro hHeld
              try simp only [Act.put, List.setIfInBounds_toArray, List.set_cons_zero, List.set_cons_succ]
              refine wpAnyR_take 15 rfl (by kernel_rfl) (by kernel_rfl) (by kernel_rfl) (by kernel_rfl) (fun _ _ _ h => h) (by rfl) (v := ?_) ?_ (by assumption) ?_
              rotate_left
              focus
                intro wS hSw
                (try dsimp only at hSw)
                go_simp
                try with_reducible rfl
              intro hHeld
              try simp only [Act.put, List.setIfInBounds_toArray, List.set_cons_zero, List.set_cons_succ]
              refine wpAnyR_take 16 rfl (by kernel_rfl) (by kernel_rfl) (by kernel_rfl) (by kernel_rfl) (fun _ _ _ h => h) (by rfl) (v := ?_) ?_ (by assumption) ?_
              rotate_left
              focus
                intro wS hSw
                (try dsimp only at hSw)
                go_simp
                try with_reducible rfl
              intro hHeld
              try simp only [Act.put, List.setIfInBounds_toArray, List.set_cons_zero, List.set_cons_succ]
              refine wpAnyR_take 17 rfl (by kernel_rfl) (by kernel_rfl) (by kernel_rfl) (by kernel_rfl) (fun _ _ _ h => h) (by rfl) (v := ?_) ?_ (by assumption) ?_
              rotate_left
              focus
                intro wS hSw
                (try dsimp only at hSw)
                go_simp
                try with_reducible rfl
              intro hHeld
              try simp only [Act.put, List.setIfInBounds_toArray, List.set_cons_zero, List.set_cons_succ]
              refine wpAnyR_take 18 rfl (by kernel_rfl) (by kernel_rfl) (by kernel_rfl) (by kernel_rfl) (fun _ _ _ h => h) (by rfl) (v := ?_) ?_ (by assumption) ?_
              rotate_left
              focus
                intro wS hSw
                (try dsimp only at hSw)
                go_simp
                try with_reducible rfl
              intro hHeld
              try simp only [Act.put, List.setIfInBounds_toArray, List.set_cons_zero, List.set_cons_succ]
              refine wpAnyR_take 19 rfl (by kernel_rfl) (by kernel_rfl) (by kernel_rfl) (by kernel_rfl) (fun _ _ _ h => h) (by rfl) (v := ?_) ?_ (by assumption) ?_
              rotate_left
              focus
                intro wS hSw
                (try dsimp only at hSw)
                go_simp
                try with_reducible rfl
              intro hHeld
              try simp only [Act.put, List.setIfInBounds_toArray, List.set_cons_zero, List.set_cons_succ]
              refine wpAnyR_take 20 rfl (by kernel_rfl) (by kernel_rfl) (by kernel_rfl) (by kernel_rfl) (fun _ _ _ h => h) (by rfl) (v := ?_) ?_ (by assumption) ?_
              rotate_left
              focus
                intro wS hSw
                (try dsimp only at hSw)
                go_simp
                try with_reducible rfl
              intro hHeld
              try simp only [Act.put, List.setIfInBounds_toArray, List.set_cons_zero, List.set_cons_succ]
              refine wpAnyR_take 21 rfl (by kernel_rfl) (by kernel_rfl) (by kernel_rfl) (by kernel_rfl) (fun _ _ _ h => h) (by rfl) (v := ?_) ?_ (by assumption) ?_
              rotate_left
              focus
                intro wS hSw
                (try dsimp only at hSw)
                go_simp
                try with_reducible rfl
              intro hHeld
              try simp only [Act.put, List.setIfInBounds_toArray, List.set_cons_zero, List.set_cons_succ]
              refine wpAnyR_take 22 rfl (by kernel_rfl) (by kernel_rfl) (by kernel_rfl) (by kernel_rfl) (fun _ _ _ h => h) (by rfl) (v := ?_) ?_ (by assumption) ?_
              rotate_left
              focus
                intro wS hSw
                (try dsimp only at hSw)
                go_simp
                try with_reducible rfl
              intro hHeld
              try simp only [Act.put, List.setIfInBounds_toArray, List.set_cons_zero, List.set_cons_succ]
              refine wpAnyR_take 23 rfl (by kernel_rfl) (by kernel_rfl) (by kernel_rfl) (by kernel_rfl) (fun _ _ _ h => h) (by rfl) (v := ?_) ?_ (by assumption) ?_
              rotate_left
              focus
                intro wS hSw
                (try dsimp only at hSw)
                go_simp
                try with_reducible rfl
              intro hHeld
              try simp only [Act.put, List.setIfInBounds_toArray, List.set_cons_zero, List.set_cons_succ]
              refine wpAnyR_take 24 rfl (by kernel_rfl) (by kernel_rfl) (by kernel_rfl) (by kernel_rfl) (fun _ _ _ h => h) (by rfl) (v := ?_) ?_ (by assumption) ?_
              rotate_left
              focus
                intro wS hSw
                (try dsimp only at hSw)
                go_simp
                try with_reducible rfl
              intro hHeld
              try simp only [Act.put, List.setIfInBounds_toArray, List.set_cons_zero, List.set_cons_succ]
              refine wpAnyR_take 25 rfl (by kernel_rfl) (by kernel_rfl) (by kernel_rfl) (by kernel_rfl) (fun _ _ _ h => h) (by rfl) (v := ?_) ?_ (by assumption) ?_
              rotate_left
              focus
                intro wS hSw
                (try dsimp only at hSw)
                go_simp
                try with_reducible rfl
              intro hHeld
              try simp only [Act.put, List.setIfInBounds_toArray, List.set_cons_zero, List.set_cons_succ]
              refine wpAnyR_step 26 rfl (by kernel_rfl) (fun K hK => ?_)
              go_simp
              go_at_call 8
              refine (HI2 1).out.mono ?_
              rintro r w3 ⟨rfl, hb3⟩
              have HB3 := Lib.hid (HBE.out.trans (hb3.mono HBE.out.size))
              have hb4 := hb3
              clear hb3
              go_wp2_with fail
              refine hK.out _ _ (HFT.out w3 hb4) (fun hHeld => ?_)
              clear hK K
              try simp only [Act.put, List.setIfInBounds_toArray, List.set_cons_zero, List.set_cons_succ]
              clear hb4
              refine wpAnyR_take 27 rfl (by kernel_rfl) (by kernel_rfl) (by kernel_rfl) (by kernel_rfl) (fun _ _ _ h => h) (by rfl) (v := ?_) ?_ (by assumption) ?_
              rotate_left
              focus
                intro wS hSw
                (try dsimp only at hSw)
                go_simp
                try with_reducible rfl
              intro hHeld
              try simp only [Act.put, List.setIfInBounds_toArray, List.set_cons_zero, List.set_cons_succ]
              refine wpAnyR_take 28 rfl (by kernel_rfl) (by kernel_rfl) (by kernel_rfl) (by kernel_rfl) (fun _ _ _ h => h) (by rfl) (v := ?_) ?_ (by assumption) ?_
              rotate_left
              focus
                intro wS hSw
                (try dsimp only at hSw)
                go_simp
                try with_reducible rfl
              intro hHeld
              try simp only [Act.put, List.setIfInBounds_toArray, List.set_cons_zero, List.set_cons_succ]
              refine wpAnyR_done (by kernel_rfl) ?_
              refine NoPanic.normal ?_
              go_wp2_with fail
              go_ret
              exact ⟨rfl, (HCHAIN.out _ HB3.out).1⟩
            · rw [if_pos rfl] at hm
              have hM2 := Lib.hid hm
              clear hm
              go_upto_region 27 with fail
              refine wp_region_heldR (fun w' => w'.cell? ⟨w.heap.size, 4, none⟩ = some (.slice (some ⟨g, o, none⟩) DD cD) ∧ w'.cell? ⟨w.heap.size + 1, 4, none⟩ = some (.slice (some ⟨g2, o2, none⟩) DD cD2) ∧ w'.cell? ⟨g, o + i * 6, none⟩ = some (.string sy) ∧ w'.cell? ⟨g, o + i * 6 + 1, none⟩ = some d0 ∧ w'.cell? ⟨g, o + i * 6 + 2, none⟩ = some d1 ∧ w'.cell? ⟨g, o + i * 6 + 3, none⟩ = some d2' ∧ w'.cell? ⟨g, o + i * 6 + 4, none⟩ = some d3 ∧ w'.cell? ⟨g, o + i * 6 + 5, none⟩ = some d4 ∧ w'.cell? ⟨g2, o2 + i * 6, none⟩ = some (.string sy) ∧ w'.cell? ⟨g2, o2 + i * 6 + 1, none⟩ = some f0 ∧ w'.cell? ⟨g2, o2 + i * 6 + 2, none⟩ = some f1 ∧ w'.cell? ⟨g2, o2 + i * 6 + 3, none⟩ = some f2 ∧ w'.cell? ⟨g2, o2 + i * 6 + 4, none⟩ = some f3 ∧ w'.cell? ⟨g2, o2 + i * 6 + 5, none⟩ = some f4) 1000 (by kernel_rfl) ⟨m4, q4, ks, k0, k1, k2, k3, k4, js, j0, j1, j2, j3, j4⟩ (fun hHeld => ?_)
              refine wpAnyR_take 0 rfl (by kernel_rfl) (by kernel_rfl) (by kernel_rfl) (by kernel_rfl) (fun _ _ _ h => h) (by rfl) (v := ?_) ?_ (by assumption) ?_
              rotate_left
              focus
                intro wS hSw
                (try dsimp only at hSw)
                go_simp
                try with_reducible rfl
              intro hHeld
              try simp only [Act.put, List.setIfInBounds_toArray, List.set_cons_zero, List.set_cons_succ]
              refine wpAnyR_take 1 rfl (by kernel_rfl) (by kernel_rfl) (by kernel_rfl) (by kernel_rfl) (fun _ _ _ h => h) (by rfl) (v := ?_) ?_ (by assumption) ?_
              rotate_left
              focus
                intro wS hSw
                (try dsimp only at hSw)
                go_simp
                try with_reducible rfl
              intro hHeld
              try simp only [Act.put, List.setIfInBounds_toArray, List.set_cons_zero, List.set_cons_succ]
              refine wpAnyR_take 2 rfl (by kernel_rfl) (by kernel_rfl) (by kernel_rfl) (by kernel_rfl) (fun _ _ _ h => h) (by rfl) (v := ?_) ?_ (by assumption) ?_
              rotate_left
              focus
                intro wS hSw
                (try dsimp only at hSw)
                go_simp
                try with_reducible rfl
              intro hHeld
              try simp only [Act.put, List.setIfInBounds_toArray, List.set_cons_zero, List.set_cons_succ]
              refine wpAnyR_take 3 rfl (by kernel_rfl) (by kernel_rfl) (by kernel_rfl) (by kernel_rfl) (fun _ _ _ h => h) (by rfl) (v := ?_) ?_ (by assumption) ?_
              rotate_left
              focus
                intro wS hSw
                (try dsimp only at hSw)
                go_simp
                try with_reducible rfl
              intro hHeld
              try simp only [Act.put, List.setIfInBounds_toArray, List.set_cons_zero, List.set_cons_succ]
              refine wpAnyR_take 4 rfl (by kernel_rfl) (by kernel_rfl) (by kernel_rfl) (by kernel_rfl) (fun _ _ _ h => h) (by rfl) (v := ?_) ?_ (by assumption) ?_
              rotate_left
              focus
                intro wS hSw
                (try dsimp only at hSw)
                go_simp
                try with_reducible rfl
              intro hHeld
              try simp only [Act.put, List.setIfInBounds_toArray, List.set_cons_zero, List.set_cons_succ]
              refine wpAnyR_take 5 rfl (by kernel_rfl) (by kernel_rfl) (by kernel_rfl) (by kernel_rfl) (fun _ _ _ h => h) (by rfl) (v := ?_) ?_ (by assumption) ?_
              rotate_left
              focus
                intro wS hSw
                (try dsimp only at hSw)
                go_simp
                try with_reducible rfl
              intro hHeld
              try simp only [Act.put, List.setIfInBounds_toArray, List.set_cons_zero, List.set_cons_succ]
              refine wpAnyR_take 6 rfl (by kernel_rfl) (by kernel_rfl) (by kernel_rfl) (by kernel_rfl) (fun _ _ _ h => h) (by rfl) (v := ?_) ?_ (by assumption) ?_
              rotate_left
              focus
                intro wS hSw
                (try dsimp only at hSw)
                go_simp
                try with_reducible rfl
              intro hHeld
              try simp only [Act.put, List.setIfInBounds_toArray, List.set_cons_zero, List.set_cons_succ]
              refine wpAnyR_take 7 rfl (by kernel_rfl) (by kernel_rfl) (by kernel_rfl) (by kernel_rfl) (fun _ _ _ h => h) (by rfl) (v := ?_) ?_ (by assumption) ?_
              rotate_left
              focus
                intro wS hSw
                (try dsimp only at hSw)
                go_simp
                try with_reducible rfl
              intro hHeld
              try simp only [Act.put, List.setIfInBounds_toArray, List.set_cons_zero, List.set_cons_succ]
              refine wpAnyR_take 8 rfl (by kernel_rfl) (by kernel_rfl) (by kernel_rfl) (by kernel_rfl) (fun _ _ _ h => h) (by rfl) (v := ?_) ?_ (by assumption) ?_
              rotate_left
              focus
                intro wS hSw
                (try dsimp only at hSw)
                go_simp
                try with_reducible rfl
              intro hHeld
              try simp only [Act.put, List.setIfInBounds_toArray, List.set_cons_zero, List.set_cons_succ]
              refine wpAnyR_take 9 rfl (by kernel_rfl) (by kernel_rfl) (by kernel_rfl) (by kernel_rfl) (fun _ _ _ h => h) (by rfl) (v := ?_) ?_ (by assumption) ?_
              rotate_left
              focus
                intro wS hSw
                (try dsimp only at hSw)
                go_simp
                try with_reducible rfl
              intro hHeld
              try simp only [Act.put, List.setIfInBounds_toArray, List.set_cons_zero, List.set_cons_succ]
              refine wpAnyR_take 10 rfl (by kernel_rfl) (by kernel_rfl) (by kernel_rfl) (by kernel_rfl) (fun _ _ _ h => h) (by rfl) (v := ?_) ?_ (by assumption) ?_
              rotate_left
              focus
                intro wS hSw
                (try dsimp only at hSw)
                go_simp
                try with_reducible rfl
              intro hHeld
              try simp only [Act.put, List.setIfInBounds_toArray, List.set_cons_zero, List.set_cons_succ]
              refine wpAnyR_take 11 rfl (by kernel_rfl) (by kernel_rfl) (by kernel_rfl) (by kernel_rfl) (fun _ _ _ h => h) (by rfl) (v := ?_) ?_ (by assumption) ?_
              rotate_left
              focus
                intro wS hSw
                (try dsimp only at hSw)
                go_simp
                try with_reducible rfl
              intro hHeld
              try simp only [Act.put, List.setIfInBounds_toArray, List.set_cons_zero, List.set_cons_succ]
              refine wpAnyR_take 12 rfl (by kernel_rfl) (by kernel_rfl) (by kernel_rfl) (by kernel_rfl) (fun _ _ _ h => h) (by rfl) (v := ?_) ?_ (by assumption) ?_
              rotate_left
              focus
                intro wS hSw
                (try dsimp only at hSw)
                go_simp
                try with_reducible rfl
              intro hHeld
              try simp only [Act.put, List.setIfInBounds_toArray, List.set_cons_zero, List.set_cons_succ]
              refine wpAnyR_take 13 rfl (by kernel_rfl) (by kernel_rfl) (by kernel_rfl) (by kernel_rfl) (fun _ _ _ h => h) (by rfl) (v := ?_) ?_ (by assumption) ?_
              rotate_left
              focus
                intro wS hSw
                (try dsimp only at hSw)
                go_simp
                try with_reducible rfl
              intro hHeld
              try simp only [Act.put, List.setIfInBounds_toArray, List.set_cons_zero, List.set_cons_succ]
              refine wpAnyR_take 14 rfl (by kernel_rfl) (by kernel_rfl) (by kernel_rfl) (by kernel_rfl) (fun _ _ _ h => h) (by rfl) (v := ?_) ?_ (by assumption) ?_
              rotate_left
              focus
                intro wS hSw
                (try dsimp only at hSw)
                go_simp
                try with_reducible rfl
              intro hHeld
              try simp only [Act.put, List.setIfInBounds_toArray, List.set_cons_zero, List.set_cons_succ]
              refine wpAnyR_take 15 rfl (by kernel_rfl) (by kernel_rfl) (by kernel_rfl) (by kernel_rfl) (fun _ _ _ h => h) (by rfl) (v := ?_) ?_ (by assumption) ?_
              rotate_left
              focus
                intro wS hSw
                (try dsimp only at hSw)
                go_simp
                try with_reducible rfl
              intro hHeld
              try simp only [Act.put, List.setIfInBounds_toArray, List.set_cons_zero, List.set_cons_succ]
              refine wpAnyR_take 16 rfl (by kernel_rfl) (by kernel_rfl) (by kernel_rfl) (by kernel_rfl) (fun _ _ _ h => h) (by rfl) (v := ?_) ?_ (by assumption) ?_
              rotate_left
              focus
                intro wS hSw
                (try dsimp only at hSw)
                go_simp
                try with_reducible rfl
              intro hHeld
              try simp only [Act.put, List.setIfInBounds_toArray, List.set_cons_zero, List.set_cons_succ]
              refine wpAnyR_take 17 rfl (by kernel_rfl) (by kernel_rfl) (by kernel_rfl) (by kernel_rfl) (fun _ _ _ h => h) (by rfl) (v := ?_) ?_ (by assumption) ?_
              rotate_left
              focus
                intro wS hSw
                (try dsimp only at hSw)
                go_simp
                try with_reducible rfl
              intro hHeld
              try simp only [Act.put, List.setIfInBounds_toArray, List.set_cons_zero, List.set_cons_succ]
              refine wpAnyR_take 18 rfl (by kernel_rfl) (by kernel_rfl) (by kernel_rfl) (by kernel_rfl) (fun _ _ _ h => h) (by rfl) (v := ?_) ?_ (by assumption) ?_
              rotate_left
              focus
                intro wS hSw
                (try dsimp only at hSw)
                go_simp
                try with_reducible rfl
              intro hHeld
              try simp only [Act.put, List.setIfInBounds_toArray, List.set_cons_zero, List.set_cons_succ]
              refine wpAnyR_take 19 rfl (by kernel_rfl) (by kernel_rfl) (by kernel_rfl) (by kernel_rfl) (fun _ _ _ h => h) (by rfl) (v := ?_) ?_ (by assumption) ?_
              rotate_left
              focus
                intro wS hSw
                (try dsimp only at hSw)
                go_simp
                try with_reducible rfl
              intro hHeld
              try simp only [Act.put, List.setIfInBounds_toArray, List.set_cons_zero, List.set_cons_succ]
              refine wpAnyR_take 20 rfl (by kernel_rfl) (by kernel_rfl) (by kernel_rfl) (by kernel_rfl) (fun _ _ _ h => h) (by rfl) (v := ?_) ?_ (by assumption) ?_
              rotate_left
              focus
                intro wS hSw
                (try dsimp only at hSw)
                go_simp
                try with_reducible rfl
              intro hHeld
              try simp only [Act.put, List.setIfInBounds_toArray, List.set_cons_zero, List.set_cons_succ]
              refine wpAnyR_take 21 rfl (by kernel_rfl) (by kernel_rfl) (by kernel_rfl) (by kernel_rfl) (fun _ _ _ h => h) (by rfl) (v := ?_) ?_ (by assumption) ?_
              rotate_left
              focus
                intro wS hSw
                (try dsimp only at hSw)
                go_simp
                try with_reducible rfl
              intro hHeld
              try simp only [Act.put, List.setIfInBounds_toArray, List.set_cons_zero, List.set_cons_succ]
              refine wpAnyR_take 22 rfl (by kernel_rfl) (by kernel_rfl) (by kernel_rfl) (by kernel_rfl) (fun _ _ _ h => h) (by rfl) (v := ?_) ?_ (by assumption) ?_
              rotate_left
              focus
                intro wS hSw
                (try dsimp only at hSw)
                go_simp
                try with_reducible rfl
              intro hHeld
              try simp only [Act.put, List.setIfInBounds_toArray, List.set_cons_zero, List.set_cons_succ]
              refine wpAnyR_take 23 rfl (by kernel_rfl) (by kernel_rfl) (by kernel_rfl) (by kernel_rfl) (fun _ _ _ h => h) (by rfl) (v := ?_) ?_ (by assumption) ?_
              rotate_left
              focus
                intro wS hSw
                (try dsimp only at hSw)
                go_simp
                try with_reducible rfl
              intro hHeld
              try simp only [Act.put, List.setIfInBounds_toArray, List.set_cons_zero, List.set_cons_succ]
              refine wpAnyR_take 24 rfl (by kernel_rfl) (by kernel_rfl) (by kernel_rfl) (by kernel_rfl) (fun _ _ _ h => h) (by rfl) (v := ?_) ?_ (by assumption) ?_
              rotate_left
              focus
                intro wS hSw
                (try dsimp only at hSw)
                go_simp
                try with_reducible rfl
              intro hHeld
              try simp only [Act.put, List.setIfInBounds_toArray, List.set_cons_zero, List.set_cons_succ]
              refine wpAnyR_take 25 rfl (by kernel_rfl) (by kernel_rfl) (by kernel_rfl) (by kernel_rfl) (fun _ _ _ h => h) (by rfl) (v := ?_) ?_ (by assumption) ?_
              rotate_left
              focus
                intro wS hSw
                (try dsimp only at hSw)
                go_simp
                try with_reducible rfl
              intro hHeld
              try simp only [Act.put, List.setIfInBounds_toArray, List.set_cons_zero, List.set_cons_succ]
              refine wpAnyR_step 26 rfl (by kernel_rfl) (fun K hK => ?_)
              go_simp
              go_at_call 8
              refine (HI2 1).out.mono ?_
              rintro r w3 ⟨rfl, hb3⟩
              have HB3 := Lib.hid (HBE.out.trans (hb3.mono HBE.out.size))
              have hb4 := hb3
              clear hb3
              go_wp2_with fail
              refine hK.out _ _ (HFT.out w3 hb4) (fun hHeld => ?_)
              clear hK K
              try simp only [Act.put, List.setIfInBounds_toArray, List.set_cons_zero, List.set_cons_succ]
              clear hb4
              refine wpAnyR_take 27 rfl (by kernel_rfl) (by kernel_rfl) (by kernel_rfl) (by kernel_rfl) (fun _ _ _ h => h) (by rfl) (v := ?_) ?_ (by assumption) ?_
              rotate_left
              focus
                intro wS hSw
                (try dsimp only at hSw)
                go_simp
                try with_reducible rfl
              intro hHeld
              try simp only [Act.put, List.setIfInBounds_toArray, List.set_cons_zero, List.set_cons_succ]
              refine wpAnyR_take 28 rfl (by kernel_rfl) (by kernel_rfl) (by kernel_rfl) (by kernel_rfl) (fun _ _ _ h => h) (by rfl) (v := ?_) ?_ (by assumption) ?_
              rotate_left
              focus
                intro wS hSw
                (try dsimp only at hSw)
                go_simp
                try with_reducible rfl
              intro hHeld
              try simp only [Act.put, List.setIfInBounds_toArray, List.set_cons_zero, List.set_cons_succ]
              refine wpAnyR_done (by kernel_rfl) ?_
              refine NoPanic.normal ?_
              go_wp2_with fail
              go_roundw
              case rel => exact ⟨i + 1, by omega, by go_num, hM2, HB3⟩
              case measure => simp [intOf]; omega
          · rw [if_neg hss] at hm
            subst hm
            clear HI2
            have nss : decide (sy = sy2) = false := decide_eq_false hss
            have nsb := str_ne hss
            go_upto_region 27 with fail
            refine wp_region_heldR (fun w' => w'.cell? ⟨w.heap.size, 4, none⟩ = some (.slice (some ⟨g, o, none⟩) DD cD) ∧ w'.cell? ⟨w.heap.size + 1, 4, none⟩ = some (.slice (some ⟨g2, o2, none⟩) DD cD2) ∧ w'.cell? ⟨g, o + i * 6, none⟩ = some (.string sy) ∧ w'.cell? ⟨g, o + i * 6 + 1, none⟩ = some d0 ∧ w'.cell? ⟨g, o + i * 6 + 2, none⟩ = some d1 ∧ w'.cell? ⟨g, o + i * 6 + 3, none⟩ = some d2' ∧ w'.cell? ⟨g, o + i * 6 + 4, none⟩ = some d3 ∧ w'.cell? ⟨g, o + i * 6 + 5, none⟩ = some d4 ∧ w'.cell? ⟨g2, o2 + i * 6, none⟩ = some (.string sy2) ∧ w'.cell? ⟨g2, o2 + i * 6 + 1, none⟩ = some f0 ∧ w'.cell? ⟨g2, o2 + i * 6 + 2, none⟩ = some f1 ∧ w'.cell? ⟨g2, o2 + i * 6 + 3, none⟩ = some f2 ∧ w'.cell? ⟨g2, o2 + i * 6 + 4, none⟩ = some f3 ∧ w'.cell? ⟨g2, o2 + i * 6 + 5, none⟩ = some f4) 1000 (by kernel_rfl) ⟨m4, q4, ks, k0, k1, k2, k3, k4, js, j0, j1, j2, j3, j4⟩ (fun hHeld => ?_)
            refine wpAnyR_take 0 rfl (by kernel_rfl) (by kernel_rfl) (by kernel_rfl) (by kernel_rfl) (fun _ _ _ h => h) (by rfl) (v := ?_) ?_ (by assumption) ?_
            rotate_left
            focus
              intro wS hSw
              (try dsimp only at hSw)
              go_simp
              try with_reducible rfl
            intro hHeld
            try simp only [Act.put, List.setIfInBounds_toArray, List.set_cons_zero, List.set_cons_succ]
            refine wpAnyR_take 1 rfl (by kernel_rfl) (by kernel_rfl) (by kernel_rfl) (by kernel_rfl) (fun _ _ _ h => h) (by rfl) (v := ?_) ?_ (by assumption) ?_
            rotate_left
            focus
              intro wS hSw
              (try dsimp only at hSw)
              go_simp
              try with_reducible rfl
            intro hHeld
            try simp only [Act.put, List.setIfInBounds_toArray, List.set_cons_zero, List.set_cons_succ]
            refine wpAnyR_take 2 rfl (by kernel_rfl) (by kernel_rfl) (by kernel_rfl) (by kernel_rfl) (fun _ _ _ h => h) (by rfl) (v := ?_) ?_ (by assumption) ?_
            rotate_left
            focus
              intro wS hSw
              (try dsimp only at hSw)
              go_simp
              try with_reducible rfl
            intro hHeld
            try simp only [Act.put, List.setIfInBounds_toArray, List.set_cons_zero, List.set_cons_succ]
            refine wpAnyR_take 3 rfl (by kernel_rfl) (by kernel_rfl) (by kernel_rfl) (by kernel_rfl) (fun _ _ _ h => h) (by rfl) (v := ?_) ?_ (by assumption) ?_
            rotate_left
            focus
              intro wS hSw
              (try dsimp only at hSw)
              go_simp
              try with_reducible rfl
            intro hHeld
            try simp only [Act.put, List.setIfInBounds_toArray, List.set_cons_zero, List.set_cons_succ]
            refine wpAnyR_take 4 rfl (by kernel_rfl) (by kernel_rfl) (by kernel_rfl) (by kernel_rfl) (fun _ _ _ h => h) (by rfl) (v := ?_) ?_ (by assumption) ?_
            rotate_left
            focus
              intro wS hSw
              (try dsimp only at hSw)
              go_simp
              try with_reducible rfl
            intro hHeld
            try simp only [Act.put, List.setIfInBounds_toArray, List.set_cons_zero, List.set_cons_succ]
            refine wpAnyR_take 5 rfl (by kernel_rfl) (by kernel_rfl) (by kernel_rfl) (by kernel_rfl) (fun _ _ _ h => h) (by rfl) (v := ?_) ?_ (by assumption) ?_
            rotate_left
            focus
              intro wS hSw
              (try dsimp only at hSw)
              go_simp
              try with_reducible rfl
            intro hHeld
            try simp only [Act.put, List.setIfInBounds_toArray, List.set_cons_zero, List.set_cons_succ]
            refine wpAnyR_take 6 rfl (by kernel_rfl) (by kernel_rfl) (by kernel_rfl) (by kernel_rfl) (fun _ _ _ h => h) (by rfl) (v := ?_) ?_ (by assumption) ?_
            rotate_left
            focus
              intro wS hSw
              (try dsimp only at hSw)
              go_simp
              try with_reducible rfl
            intro hHeld
            try simp only [Act.put, List.setIfInBounds_toArray, List.set_cons_zero, List.set_cons_succ]
            refine wpAnyR_take 7 rfl (by kernel_rfl) (by kernel_rfl) (by kernel_rfl) (by kernel_rfl) (fun _ _ _ h => h) (by rfl) (v := ?_) ?_ (by assumption) ?_
            rotate_left
            focus
              intro wS hSw
              (try dsimp only at hSw)
              go_simp
              try with_reducible rfl
            intro hHeld
            try simp only [Act.put, List.setIfInBounds_toArray, List.set_cons_zero, List.set_cons_succ]
            refine wpAnyR_take 8 rfl (by kernel_rfl) (by kernel_rfl) (by kernel_rfl) (by kernel_rfl) (fun _ _ _ h => h) (by rfl) (v := ?_) ?_ (by assumption) ?_
            rotate_left
            focus
              intro wS hSw
              (try dsimp only at hSw)
              go_simp
              try with_reducible rfl
            intro hHeld
            try simp only [Act.put, List.setIfInBounds_toArray, List.set_cons_zero, List.set_cons_succ]
            refine wpAnyR_take 9 rfl (by kernel_rfl) (by kernel_rfl) (by kernel_rfl) (by kernel_rfl) (fun _ _ _ h => h) (by rfl) (v := ?_) ?_ (by assumption) ?_
            rotate_left
            focus
              intro wS hSw
              (try dsimp only at hSw)
              go_simp
              try with_reducible rfl
            intro hHeld
            try simp only [Act.put, List.setIfInBounds_toArray, List.set_cons_zero, List.set_cons_succ]
            refine wpAnyR_take 10 rfl (by kernel_rfl) (by kernel_rfl) (by kernel_rfl) (by kernel_rfl) (fun _ _ _ h => h) (by rfl) (v := ?_) ?_ (by assumption) ?_
            rotate_left
            focus
              intro wS hSw
              (try dsimp only at hSw)
              go_simp
              try with_reducible rfl
            intro hHeld
            try simp only [Act.put, List.setIfInBounds_toArray, List.set_cons_zero, List.set_cons_succ]
            refine wpAnyR_take 11 rfl (by kernel_rfl) (by kernel_rfl) (by kernel_rfl) (by kernel_rfl) (fun _ _ _ h => h) (by rfl) (v := ?_) ?_ (by assumption) ?_
            rotate_left
            focus
              intro wS hSw
              (try dsimp only at hSw)
              go_simp
              try with_reducible rfl
            intro hHeld
            try simp only [Act.put, List.setIfInBounds_toArray, List.set_cons_zero, List.set_cons_succ]
            refine wpAnyR_take 12 rfl (by kernel_rfl) (by kernel_rfl) (by kernel_rfl) (by kernel_rfl) (fun _ _ _ h => h) (by rfl) (v := ?_) ?_ (by assumption) ?_
            rotate_left
            focus
              intro wS hSw
              (try dsimp only at hSw)
              go_simp
              try with_reducible rfl
            intro hHeld
            try simp only [Act.put, List.setIfInBounds_toArray, List.set_cons_zero, List.set_cons_succ]
            refine wpAnyR_take 13 rfl (by kernel_rfl) (by kernel_rfl) (by kernel_rfl) (by kernel_rfl) (fun _ _ _ h => h) (by rfl) (v := ?_) ?_ (by assumption) ?_
            rotate_left
            focus
              intro wS hSw
              (try dsimp only at hSw)
              go_simp
              try with_reducible rfl
            intro hHeld
            try simp only [Act.put, List.setIfInBounds_toArray, List.set_cons_zero, List.set_cons_succ]
            refine wpAnyR_skip 14 rfl (by kernel_rfl) (by kernel_rfl) (by kernel_rfl) (by kernel_rfl) (fun _ _ _ h => h) (by rfl) (by assumption) ?_
            intro hHeld
            try simp only [Act.put, List.setIfInBounds_toArray, List.set_cons_zero, List.set_cons_succ]
            refine wpAnyR_skip 15 rfl (by kernel_rfl) (by kernel_rfl) (by kernel_rfl) (by kernel_rfl) (fun _ _ _ h => h) (by rfl) (by assumption) ?_
            intro hHeld
            try simp only [Act.put, List.setIfInBounds_toArray, List.set_cons_zero, List.set_cons_succ]
            refine wpAnyR_skip 16 rfl (by kernel_rfl) (by kernel_rfl) (by kernel_rfl) (by kernel_rfl) (fun _ _ _ h => h) (by rfl) (by assumption) ?_
            intro hHeld
            try simp only [Act.put, List.setIfInBounds_toArray, List.set_cons_zero, List.set_cons_succ]
            refine wpAnyR_skip 17 rfl (by kernel_rfl) (by kernel_rfl) (by kernel_rfl) (by kernel_rfl) (fun _ _ _ h => h) (by rfl) (by assumption) ?_
            intro hHeld
            try simp only [Act.put, List.setIfInBounds_toArray, List.set_cons_zero, List.set_cons_succ]
            refine wpAnyR_skip 18 rfl (by kernel_rfl) (by kernel_rfl) (by kernel_rfl) (by kernel_rfl) (fun _ _ _ h => h) (by rfl) (by assumption) ?_
            intro hHeld
            try simp only [Act.put, List.setIfInBounds_toArray, List.set_cons_zero, List.set_cons_succ]
            refine wpAnyR_skip 19 rfl (by kernel_rfl) (by kernel_rfl) (by kernel_rfl) (by kernel_rfl) (fun _ _ _ h => h) (by rfl) (by assumption) ?_
            intro hHeld
            try simp only [Act.put, List.setIfInBounds_toArray, List.set_cons_zero, List.set_cons_succ]
            refine wpAnyR_skip 20 rfl (by kernel_rfl) (by kernel_rfl) (by kernel_rfl) (by kernel_rfl) (fun _ _ _ h => h) (by rfl) (by assumption) ?_
            intro hHeld
            try simp only [Act.put, List.setIfInBounds_toArray, List.set_cons_zero, List.set_cons_succ]
            refine wpAnyR_skip 21 rfl (by kernel_rfl) (by kernel_rfl) (by kernel_rfl) (by kernel_rfl) (fun _ _ _ h => h) (by rfl) (by assumption) ?_
            intro hHeld
            try simp only [Act.put, List.setIfInBounds_toArray, List.set_cons_zero, List.set_cons_succ]
            refine wpAnyR_skip 22 rfl (by kernel_rfl) (by kernel_rfl) (by kernel_rfl) (by kernel_rfl) (fun _ _ _ h => h) (by rfl) (by assumption) ?_
            intro hHeld
            try simp only [Act.put, List.setIfInBounds_toArray, List.set_cons_zero, List.set_cons_succ]
            refine wpAnyR_skip 23 rfl (by kernel_rfl) (by kernel_rfl) (by kernel_rfl) (by kernel_rfl) (fun _ _ _ h => h) (by rfl) (by assumption) ?_
            intro hHeld
            try simp only [Act.put, List.setIfInBounds_toArray, List.set_cons_zero, List.set_cons_succ]
            refine wpAnyR_skip 24 rfl (by kernel_rfl) (by kernel_rfl) (by kernel_rfl) (by kernel_rfl) (fun _ _ _ h => h) (by rfl) (by assumption) ?_
            intro hHeld
            try simp only [Act.put, List.setIfInBounds_toArray, List.set_cons_zero, List.set_cons_succ]
            refine wpAnyR_skip 25 rfl (by kernel_rfl) (by kernel_rfl) (by kernel_rfl) (by kernel_rfl) (fun _ _ _ h => h) (by rfl) (by assumption) ?_
            intro hHeld
            try simp only [Act.put, List.setIfInBounds_toArray, List.set_cons_zero, List.set_cons_succ]
            refine wpAnyR_skip 26 rfl (by kernel_rfl) (by kernel_rfl) (by kernel_rfl) (by kernel_rfl) (fun _ _ _ h => h) (by rfl) (by assumption) ?_
            intro hHeld
            try simp only [Act.put, List.setIfInBounds_toArray, List.set_cons_zero, List.set_cons_succ]
            refine wpAnyR_skip 27 rfl (by kernel_rfl) (by kernel_rfl) (by kernel_rfl) (by kernel_rfl) (fun _ _ _ h => h) (by rfl) (by assumption) ?_
            intro hHeld
            try simp only [Act.put, List.setIfInBounds_toArray, List.set_cons_zero, List.set_cons_succ]
            refine wpAnyR_take 28 rfl (by kernel_rfl) (by kernel_rfl) (by kernel_rfl) (by kernel_rfl) (fun _ _ _ h => h) (by rfl) (v := ?_) ?_ (by assumption) ?_
            rotate_left
            focus
              intro wS hSw
              (try dsimp only at hSw)
              go_simp
              try with_reducible rfl
            intro hHeld
            try simp only [Act.put, List.setIfInBounds_toArray, List.set_cons_zero, List.set_cons_succ]
            refine wpAnyR_done (by kernel_rfl) ?_
            refine NoPanic.normal ?_
            go_wp2_with fail
            go_ret
            exact ⟨rfl, (HCHAIN.out _ (Below.drewS HBE.out _)).1⟩
        · obtain rfl : DD = i := by omega
          have hm := HM.out
          have he := Ens.drop_end d
          have he2 := Ens.drop_end d2
          rw [HDD.out] at he
          rw [HDD2.out] at he2
          rw [he, he2, sameE] at hm
          subst hm
          clear he he2 hbox hbox2
          go_wp2_with fail
          go_ret
          exact ⟨rfl, (HCHAIN.out _ HBE.out).1⟩
  · rw [sameE_len d d2 (by rw [HDD.out, HDD2.out]; exact hlen)]
    rw [show (if k = 8 ∧ sameZ b b2 = false then false else false) = false by split <;> rfl]
    have i1' : ¬ (DD : Int) = DD2 := by omega
    have i1 : decide (DD = DD2) = false := decide_eq_false hlen
    clear c4
    subst hc
    · go_enter Tryd.func8, Tryd.ntmps8
      go_wp2_with fail
      go_ret
      exact ⟨rfl, (HCHAIN.out _ HQ.out).1⟩
end
end Go.Proofs.YtliieeagbpmcgaaDoor
