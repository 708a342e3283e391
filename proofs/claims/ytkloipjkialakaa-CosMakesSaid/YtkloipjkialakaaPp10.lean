/- Chapter 10: the project's makers: Stream, Pair. -/
import Derived.Test.YtkloipjkialakaaPo10
namespace Go.Proofs.Ytkloipjkialakaa
open Go.RowKit Go.Sort
set_option linter.unusedVariables false
set_option maxRecDepth 100000

set_option maxHeartbeats 1000000 in
theorem pStreamC (W : Nat) (AB : Option Addr) (cB : Nat) (b : List Int) (l : Ens) (Sl : Nat → Prop) (w : World) (A : Option Addr) (c : Nat) (hB : BytS w Sl AB b.length cB b) (hbm : b.length ≤ 100000000) (hl : EnsV w Sl l A c) (hS : ∀ g, Sl g → g < w.heap.size) (hk : ∀ p ∈ l.toL, 0 ≤ p.2.kind ∧ p.2.kind ≤ 9) (hw : wdE W l) (hll : l.len ≤ W) (hW : W * (1 + htE l) ≤ 1000000000) (hW2 : W ≤ 100000000) : Calls Try.prog 18 #[.slice AB b.length cB, .slice A l.len c] w (CpP w (.mk 8 0 b .nil (dictF l .nil))) := by
  have HB := Lib.hid ((Below.refl w.heap.size w).alloc (Nat.le_refl _) (.cells #[.int .i64 0, .int .i64 0, .slice none 0 0, .slice none 0 0, .slice none 0 0] 27))
  have HN := Lib.hid (heap_alloc_new w (.cells #[.int .i64 0, .int .i64 0, .slice none 0 0, .slice none 0 0, .slice none 0 0] 27))
  obtain ⟨W0, hW0⟩ : ∃ W0, w.alloc (.cells #[.int .i64 0, .int .i64 0, .slice none 0 0, .slice none 0 0, .slice none 0 0] 27) = W0 := ⟨_, rfl⟩
  have hs0 : W0.heap.size = w.heap.size + 1 := by rw [← hW0]; simp
  rw [hW0] at HB HN
  have HS0 := Lib.hid hs0
  have HW0 := Lib.hid hW0
  clear hs0 hW0
  obtain ⟨rs, h1, h2, h4, h3⟩ := ensV_rows hl hS
  have HLA := Lib.hid (lastsC rs A c W0 (h4.below HB.out) (by omega))
  rw [h2] at HLA
  have HD : Hid (∀ A2 c2 (ks rs' : List Rw) w2, ks = keepL (lastB rs') 0 rs' → Srt keyR rs' → Stb keyR rs rs' → (ks.length ≤ c2 ∧ c2 ≤ 9223372036854775807) → (0 < ks.length → ∃ g, A2 = some ⟨g, 0, none⟩ ∧ W0.heap.size ≤ g ∧ g < w2.heap.size ∧ CellsAt w2 g 0 (flatR ks)) → Below W0.heap.size W0 w2 → Calls Try.prog 22 #[.agg #[.int .i64 8, .int .i64 0, .slice AB b.length cB, .slice none 0 0, .slice A2 ks.length c2]] w2 (CpP w2 (.mk 8 0 b .nil (dictF l .nil)))) := Lib.hid (fun A2 c2 ks rs' w2 k1 k2 k3 k4 k5 k6 => by
    have hbw := HB.out.trans (k6.mono HB.out.size)
    obtain ⟨e1, e2, e3⟩ := las_ens h1 h3 hS hk k1 k2 k3 k4 (fun h0 => by
      obtain ⟨g, q1, q2, q3, q4⟩ := k5 h0
      exact ⟨g, q1, by have := HB.out.size; omega, q3, q4⟩) hbw
    refine copyOld (w := w2) W ?_ ?_ ?_
    · unfold ObR
      rw [e1]
      exact ⟨rfl, rfl, by omega, by omega, ⟨AB, _, cB, rfl, hB.keep (fun g hg => hbw.block g (hS g hg)) (fun g hg => show g < w2.heap.size by have := hS g hg; have := hbw.size; omega)⟩, ⟨none, 0, rfl, by simp [Obs.len], fun h => by simp [Obs.len] at h⟩, ⟨A2, c2, rfl, e2.1, e2.2⟩⟩
    · unfold wdO
      refine ⟨hbm, ?_, by unfold wdL; trivial, (wdE_iff W _).2 (fun p hp => (wdE_iff W l).1 hw p (e3 p hp))⟩
      rw [Obs.len, ← e1, k1]
      have := keepL_len (lastB rs') 0 rs'
      rw [k3.len, h2] at this
      omega
    · have := htE_le (htE l) (dictF l .nil) (fun p hp => htE_ge l p (e3 p hp))
      rw [htO, htL]
      exact Nat.le_trans (Nat.mul_le_mul_left W (by omega)) hW)
  have HLL := Lib.hid h2
  clear hl hS hk hw hW h1 h2 h3 h4 hB
  go_enter Try.func18, Try.ntmps18
  go_upto_region 1 with fail
  rw [HW0.out]
  go_wp2_with (first | (go_at_call 44; (with_reducible refine HLA.out.mono ?_); (rintro r w2 ⟨A2, c2, ks, rs', rfl, k1, k2, k3, k4, k5, k6⟩); have HCP := Lib.hid (HD.out A2 c2 ks rs' w2 k1 k2 k3 k4 k5 k6); have HNX := Lib.hid (blk_keep9 k6 HN.out); have HBX := Lib.hid (HB.out.trans (k6.mono HB.out.size)); have HZ3 := Lib.hid k6.size; clear k1 k2 k3 k4 k5 k6 HLA HD) | (go_at_call 22; (with_reducible refine HCP.out.mono ?_); (rintro r w3 ⟨d0, d1, d2, d3, d4, rfl, hx3, hb3⟩); (obtain ⟨k9, n9, A29, m29, c29, A39, m39, c39, A49, m49, c49, rfl, rfl, rfl, rfl, rfl⟩ := hx3.form); have HX3 := Lib.hid hx3; have HN3 := Lib.hid (blk_keep9 hb3 HNX.out); have HB3 := Lib.hid (HBX.out.trans (hb3.mono HBX.out.size)); (obtain ⟨r0, r1, r2, r3, r4, r5⟩ := zero_cells HN3.out); clear hx3 hb3 HCP))
  refine bodyPost_ret (results_cell_row rfl _ _ w.heap.size 27 _ (0, 0) _ rfl (set5_row HN3.out) Try.underlying27 rfl (by kernel_rfl)) rfl ?_
  exact ⟨_, _, _, _, _, rfl, ObR.keep (fun g hg => heap_set5 (by have := hg.1; have := HS0.out; have := HZ3.out; omega)) (fun g hg => ⟨by have := hg.1; have := HS0.out; have := HZ3.out; omega, by rw [size_set5]; exact hg.2⟩) _ HX3.out, below_set5 HB3.out (Nat.le_refl _)⟩
theorem set6_row {W : World} {g : Nat} {z0 z1 z2 z3 z4 z5 x0 x1 x2 x3 x4 x5 : Value} {T : TypeId} (h : W.heap[g]? = some (.cells #[z0, z1, z2, z3, z4, z5] T (0, 0))) : ((((((W.setCell ⟨g, 0, none⟩ x0).setCell ⟨g, 1, none⟩ x1).setCell ⟨g, 2, none⟩ x2).setCell ⟨g, 3, none⟩ x3).setCell ⟨g, 4, none⟩ x4).setCell ⟨g, 5, none⟩ x5).heap[g]? = some (.cells #[x0, x1, x2, x3, x4, x5] T (0, 0)) := by
  have h1 := heap_set W g 0 x0 [z0, z1, z2, z3, z4, z5] _ h
  have h2 := heap_set _ g 1 x1 _ _ h1
  have h3 := heap_set _ g 2 x2 _ _ h2
  have h4 := heap_set _ g 3 x3 _ _ h3
  have h5 := heap_set _ g 4 x4 _ _ h4
  exact heap_set _ g 5 x5 _ _ h5
theorem heap_set6 {W : World} {b g : Nat} {x0 x1 x2 x3 x4 x5 : Value} (hl : b ≠ g) : ((((((W.setCell ⟨g, 0, none⟩ x0).setCell ⟨g, 1, none⟩ x1).setCell ⟨g, 2, none⟩ x2).setCell ⟨g, 3, none⟩ x3).setCell ⟨g, 4, none⟩ x4).setCell ⟨g, 5, none⟩ x5).heap[b]? = W.heap[b]? :=
  (set_blk9 _ g 5 b x5 hl).trans (heap_set5 hl)
theorem size_set6 {W : World} {g : Nat} {x0 x1 x2 x3 x4 x5 : Value} : ((((((W.setCell ⟨g, 0, none⟩ x0).setCell ⟨g, 1, none⟩ x1).setCell ⟨g, 2, none⟩ x2).setCell ⟨g, 3, none⟩ x3).setCell ⟨g, 4, none⟩ x4).setCell ⟨g, 5, none⟩ x5).heap.size = W.heap.size := by simp [World.setCell]
theorem below_set6 {B : Nat} {w W : World} {g : Nat} {x0 x1 x2 x3 x4 x5 : Value} (h : Below B w W) (hl : B ≤ g) : Below B w ((((((W.setCell ⟨g, 0, none⟩ x0).setCell ⟨g, 1, none⟩ x1).setCell ⟨g, 2, none⟩ x2).setCell ⟨g, 3, none⟩ x3).setCell ⟨g, 4, none⟩ x4).setCell ⟨g, 5, none⟩ x5) :=
  (below_set5 h hl).setCell (p := ⟨g, 5, none⟩) hl x5
/-- What Pair answers. -/
def PaP (w : World) (s : ByteArray) (x : Ob) (r : Ending) (w' : World) : Prop := ∃ d0 d1 d2 d3 d4, r = .returned (.agg #[.string s, d0, d1, d2, d3, d4]) ∧ ObR w' (fun g => w.heap.size ≤ g ∧ g < w'.heap.size) x d0 d1 d2 d3 d4 ∧ Below w.heap.size w w'
set_option maxHeartbeats 1000000 in
theorem pPairC (W : Nat) (s : ByteArray) (x : Ob) (S : Nat → Prop) (w : World) (c0 c1 c2 c3 c4 : Value) (hx : ObR w S x c0 c1 c2 c3 c4) (hS : ∀ g, S g → g < w.heap.size) (hW : wdO W x) (hK : W * htO x ≤ 1000000000) : Calls Try.prog 13 #[.string s, .agg #[c0, c1, c2, c3, c4]] w (PaP w s x) := by
  have a1 := (Below.refl w.heap.size w).alloc (Nat.le_refl _) (.cells #[c0, c1, c2, c3, c4] 27)
  have n1 := heap_alloc_new w (.cells #[c0, c1, c2, c3, c4] 27)
  have z1 : (w.alloc (.cells #[c0, c1, c2, c3, c4] 27)).heap.size = w.heap.size + 1 := by simp
  obtain ⟨W1, hW1⟩ : ∃ W1, w.alloc (.cells #[c0, c1, c2, c3, c4] 27) = W1 := ⟨_, rfl⟩
  rw [hW1] at a1 n1 z1
  have a2 := (Below.refl W1.heap.size W1).alloc (Nat.le_refl _) (.cells #[.string ⟨#[]⟩, .int .i64 0, .int .i64 0, .slice none 0 0, .slice none 0 0, .slice none 0 0] 32)
  have n2 := heap_alloc_new W1 (.cells #[.string ⟨#[]⟩, .int .i64 0, .int .i64 0, .slice none 0 0, .slice none 0 0, .slice none 0 0] 32)
  have z2 : (W1.alloc (.cells #[.string ⟨#[]⟩, .int .i64 0, .int .i64 0, .slice none 0 0, .slice none 0 0, .slice none 0 0] 32)).heap.size = w.heap.size + 2 := by simp; omega
  obtain ⟨W2, hW2⟩ : ∃ W2, W1.alloc (.cells #[.string ⟨#[]⟩, .int .i64 0, .int .i64 0, .slice none 0 0, .slice none 0 0, .slice none 0 0] 32) = W2 := ⟨_, rfl⟩
  rw [hW2] at a2 n2 z2
  rw [z1] at n2
  have e1 := (a2.block w.heap.size (by omega)).trans n1
  have lo := a1.trans (a2.mono (by omega))
  have HCP := Lib.hid (pCopyC 1000000000 W x hW hK (Nat.le_refl _) S W2 c0 c1 c2 c3 c4 (ObR.keep (fun g hg => lo.block g (hS g hg)) (fun _ h => h) x hx) (fun g hg => by have := hS g hg; omega))
  have k0 : W2.cell? ⟨w.heap.size, 0, none⟩ = some c0 := cell_of_row _ _ 0 _ _ (0, 0) e1
  have k1 : W2.cell? ⟨w.heap.size, 1, none⟩ = some c1 := cell_of_row _ _ 1 _ _ (0, 0) e1
  have k2 : W2.cell? ⟨w.heap.size, 2, none⟩ = some c2 := cell_of_row _ _ 2 _ _ (0, 0) e1
  have k3 : W2.cell? ⟨w.heap.size, 3, none⟩ = some c3 := cell_of_row _ _ 3 _ _ (0, 0) e1
  have k4 : W2.cell? ⟨w.heap.size, 4, none⟩ = some c4 := cell_of_row _ _ 4 _ _ (0, 0) e1
  have HN2 := Lib.hid n2
  have HLO := Lib.hid lo
  have HZ2 := Lib.hid z2
  have HW1 := Lib.hid hW1
  have HW2 := Lib.hid hW2
  have HZ1 := Lib.hid z1
  clear a1 a2 n1 n2 z1 z2 e1 lo hW1 hW2 hx hS hW hK
  go_enter Try.func13, Try.ntmps13
  go_upto_region 1 with fail
  rw [HW1.out, HW2.out]
  go_wp2_with (go_at_call 22; (with_reducible refine HCP.out.mono ?_); (rintro r w3 ⟨d0, d1, d2, d3, d4, rfl, hx3, hb3⟩); (obtain ⟨k9, n9, A29, m29, c29, A39, m39, c39, A49, m49, c49, rfl, rfl, rfl, rfl, rfl⟩ := hx3.form); have HX3 := Lib.hid hx3; have HN3 := Lib.hid (blk_keep9 hb3 HN2.out); have HB3 := Lib.hid (HLO.out.trans (hb3.mono HLO.out.size)); (have r0 : w3.cell? ⟨w.heap.size + 1, 0, none⟩ = some _ := cell_of_row _ _ 0 _ _ (0, 0) HN3.out); (have r1 : w3.cell? ⟨w.heap.size + 1, 1, none⟩ = some _ := cell_of_row _ _ 1 _ _ (0, 0) HN3.out); (have r2 : w3.cell? ⟨w.heap.size + 1, 2, none⟩ = some _ := cell_of_row _ _ 2 _ _ (0, 0) HN3.out); (have r3 : w3.cell? ⟨w.heap.size + 1, 3, none⟩ = some _ := cell_of_row _ _ 3 _ _ (0, 0) HN3.out); (have r4 : w3.cell? ⟨w.heap.size + 1, 4, none⟩ = some _ := cell_of_row _ _ 4 _ _ (0, 0) HN3.out); (have r5 : w3.cell? ⟨w.heap.size + 1, 5, none⟩ = some _ := cell_of_row _ _ 5 _ _ (0, 0) HN3.out); (have rf : ∀ i, w3.frozen? ⟨w.heap.size + 1, i, none⟩ = false := fun i => by have := HN3.out; simp [World.frozen?, this]); clear hx3 hb3 HCP k0 k1 k2 k3 k4)
  refine bodyPost_ret (results_cell_row rfl _ _ (w.heap.size + 1) 32 _ (0, 0) _ rfl (set6_row HN3.out) Try.underlying32 rfl (by kernel_rfl)) rfl ?_
  exact ⟨_, _, _, _, _, rfl, ObR.keep (fun g hg => heap_set6 (by have := hg.1; have := HZ2.out; omega)) (fun g hg => ⟨by have := hg.1; have := HZ2.out; omega, by rw [size_set6]; exact hg.2⟩) _ HX3.out, below_set6 HB3.out (by omega)⟩
end Go.Proofs.Ytkloipjkialakaa
