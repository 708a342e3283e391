/- Contracts of functions that the law calls, and what they lean on (a part). -/
import Derived.Deep.Cut
import Derived.Deep.CutBlock
import Derived.Deep.LoopGhost
import Derived.Test.YtliieeagbpmcgaaDoorPu5
import Derived.Test.YtliieeagbpmcgaaDoorPu18
namespace Go.Proofs.YtliieeagbpmcgaaDoor
section
open Go.RowKit
set_option linter.unusedVariables false
set_option maxRecDepth 100000
theorem zero_cells {W : World} {g : Nat} (hh : W.heap[g]? = some (.cells #[.int .i64 0, .int .i64 0, .slice none 0 0, .slice none 0 0, .slice none 0 0] 26 (0, 0))) :
    W.cell? ⟨g, 0, none⟩ = some (.int .i64 0) ∧ W.cell? ⟨g, 1, none⟩ = some (.int .i64 0) ∧ W.cell? ⟨g, 2, none⟩ = some (.slice none 0 0) ∧ W.cell? ⟨g, 3, none⟩ = some (.slice none 0 0) ∧ W.cell? ⟨g, 4, none⟩ = some (.slice none 0 0) ∧ (∀ i, W.frozen? ⟨g, i, none⟩ = false) :=
  ⟨by rw [cell_of_row W g 0 _ 26 (0, 0) hh]; rfl, by rw [cell_of_row W g 1 _ 26 (0, 0) hh]; rfl, by rw [cell_of_row W g 2 _ 26 (0, 0) hh]; rfl, by rw [cell_of_row W g 3 _ 26 (0, 0) hh]; rfl, by rw [cell_of_row W g 4 _ 26 (0, 0) hh]; rfl, fun i => by simp [World.frozen?, hh]⟩
theorem ne2 {a b : Nat} (h : a + 2 ≤ b) : a ≠ b := by omega
theorem blk_set5 {W : World} {b g : Nat} {o : Obj} {x0 x1 x2 x3 x4 : Value} (h : W.heap[b]? = some o) (hl : b ≠ g) : (((((W.setCell ⟨g, 0, none⟩ x0).setCell ⟨g, 1, none⟩ x1).setCell ⟨g, 2, none⟩ x2).setCell ⟨g, 3, none⟩ x3).setCell ⟨g, 4, none⟩ x4).heap[b]? = some o :=
  (set_blk9 _ g 4 b x4 hl).trans ((set_blk9 _ g 3 b x3 hl).trans ((set_blk9 _ g 2 b x2 hl).trans ((set_blk9 _ g 1 b x1 hl).trans ((set_blk9 W g 0 b x0 hl).trans h))))
theorem below_set5 {B : Nat} {w W : World} {g : Nat} {x0 x1 x2 x3 x4 : Value} (h : Below B w W) (hl : B ≤ g) : Below B w (((((W.setCell ⟨g, 0, none⟩ x0).setCell ⟨g, 1, none⟩ x1).setCell ⟨g, 2, none⟩ x2).setCell ⟨g, 3, none⟩ x3).setCell ⟨g, 4, none⟩ x4) :=
  ((((h.setCell (p := ⟨g, 0, none⟩) hl x0).setCell (p := ⟨g, 1, none⟩) hl x1).setCell (p := ⟨g, 2, none⟩) hl x2).setCell (p := ⟨g, 3, none⟩) hl x3).setCell (p := ⟨g, 4, none⟩) hl x4
theorem heap_set5 {W : World} {b g : Nat} {x0 x1 x2 x3 x4 : Value} (hl : b ≠ g) : (((((W.setCell ⟨g, 0, none⟩ x0).setCell ⟨g, 1, none⟩ x1).setCell ⟨g, 2, none⟩ x2).setCell ⟨g, 3, none⟩ x3).setCell ⟨g, 4, none⟩ x4).heap[b]? = W.heap[b]? :=
  (set_blk9 _ g 4 b x4 hl).trans ((set_blk9 _ g 3 b x3 hl).trans ((set_blk9 _ g 2 b x2 hl).trans ((set_blk9 _ g 1 b x1 hl).trans (set_blk9 W g 0 b x0 hl))))
theorem size_set5 {W : World} {g : Nat} {x0 x1 x2 x3 x4 : Value} : (((((W.setCell ⟨g, 0, none⟩ x0).setCell ⟨g, 1, none⟩ x1).setCell ⟨g, 2, none⟩ x2).setCell ⟨g, 3, none⟩ x3).setCell ⟨g, 4, none⟩ x4).heap.size = W.heap.size := by simp [World.setCell]
theorem set5_row {W : World} {g : Nat} {z0 z1 z2 z3 z4 x0 x1 x2 x3 x4 : Value} {T : TypeId} (h : W.heap[g]? = some (.cells #[z0, z1, z2, z3, z4] T (0, 0))) : (((((W.setCell ⟨g, 0, none⟩ x0).setCell ⟨g, 1, none⟩ x1).setCell ⟨g, 2, none⟩ x2).setCell ⟨g, 3, none⟩ x3).setCell ⟨g, 4, none⟩ x4).heap[g]? = some (.cells #[x0, x1, x2, x3, x4] T (0, 0)) := by
  have h1 := heap_set W g 0 x0 [z0, z1, z2, z3, z4] _ h
  have h2 := heap_set _ g 1 x1 _ _ h1
  have h3 := heap_set _ g 2 x2 _ _ h2
  have h4 := heap_set _ g 3 x3 _ _ h3
  exact heap_set _ g 4 x4 _ _ h4
section
variable {w wN : World} {gO mb cb2 : Nat} {bx : Array Value} {k n : Int} {AB2 : Option Addr} {b : List Int} {S : Nat → Prop}
theorem CpS.new1 (hb : Below w.heap.size w wN) (hbx : wN.heap[w.heap.size]? = some (.cells bx 26 (0, 0))) (hrs : wN.heap[w.heap.size + 1]? = some (.cells #[.int .i64 0, .int .i64 0, .slice none 0 0, .slice none 0 0, .slice none 0 0] 26 (0, 0))) (hs : w.heap.size + 2 ≤ wN.heap.size) (hy : BytS wN S AB2 mb cb2 b) (hS : ∀ g, S g → w.heap.size + 1 < g ∧ g < wN.heap.size) :
    CpS w (wN.alloc (.cells #[.int .i64 k, .int .i64 n, .slice AB2 mb cb2, .slice none 0 0, .slice none 0 0] 26)) (wN.heap.size + 1) wN.heap.size bx k n AB2 mb cb2 b (.slice none 0 0) (.slice none 0 0) := by
  have hb1 : Below wN.heap.size wN (wN.alloc (.cells #[.int .i64 k, .int .i64 n, .slice AB2 mb cb2, .slice none 0 0, .slice none 0 0] 26)) := (Below.refl _ _).alloc (Nat.le_refl _) _
  exact ⟨hb.trans (hb1.mono (by omega)), blk_keep9 hb1 hbx, blk_keep9 hb1 hrs, heap_alloc_new wN _, hy.keep (fun g hg => hb1.block g (hS g hg).2) (fun g hg => ⟨(hS g hg).1, by have := (hS g hg).2; omega, by have := (hS g hg).2; omega⟩), by omega, by omega, by rw [World.size_alloc]; exact Nat.le_refl _⟩
theorem CpS.new2 (hb : Below w.heap.size w wN) (hbx : wN.heap[w.heap.size]? = some (.cells bx 26 (0, 0))) (hrs : wN.heap[w.heap.size + 1]? = some (.cells #[.int .i64 0, .int .i64 0, .slice none 0 0, .slice none 0 0, .slice none 0 0] 26 (0, 0))) (hg : wN.heap[gO]? = some (.cells #[.int .i64 0, .int .i64 0, .slice none 0 0, .slice none 0 0, .slice none 0 0] 26 (0, 0))) (hs : w.heap.size + 2 ≤ gO) (hy : BytS wN S AB2 mb cb2 b) (hS : ∀ g, S g → w.heap.size + 1 < g ∧ g < wN.heap.size ∧ g ≠ gO) :
    CpS w (((((wN.setCell ⟨gO, 0, none⟩ (.int .i64 k)).setCell ⟨gO, 1, none⟩ (.int .i64 n)).setCell ⟨gO, 2, none⟩ (.slice AB2 mb cb2)).setCell ⟨gO, 3, none⟩ (.slice none 0 0)).setCell ⟨gO, 4, none⟩ (.slice none 0 0)) wN.heap.size gO bx k n AB2 mb cb2 b (.slice none 0 0) (.slice none 0 0) := by
  exact ⟨below_set5 hb (by omega), blk_set5 hbx (by omega), blk_set5 hrs (by omega), set5_row hg, hy.keep (fun g hg => by
      have h5 := hS g hg
      exact (set_blk9 _ gO 4 g _ h5.2.2).trans ((set_blk9 _ gO 3 g _ h5.2.2).trans ((set_blk9 _ gO 2 g _ h5.2.2).trans ((set_blk9 _ gO 1 g _ h5.2.2).trans (set_blk9 wN gO 0 g _ h5.2.2))))) (fun g hg => ⟨(hS g hg).1, (hS g hg).2.1, (hS g hg).2.2⟩), by omega, row_lt _ _ _ hg, by simp [World.setCell]⟩
end
set_option maxHeartbeats 8000000 in
theorem copyC : ∀ (NN : Nat) (x : Ob), x.sz ≤ NN → okO x → ∀ (S : Nat → Prop) (w : World) (c0 c1 c2 c3 c4 : Value), ObR w S x c0 c1 c2 c3 c4 → (∀ g, S g → g < w.heap.size) →
    Calls Tryd.prog 18 #[.agg #[c0, c1, c2, c3, c4]] w (CpP w x)
  | 0, .mk k n b l d, hN => by rw [Ob.sz] at hN; omega
  | NN + 1, .mk k n b l d, hN => by
    intro hok S w c0 c1 c2 c3 c4 hx hS
    have IH := Lib.hid (copyC NN)
    unfold ObR at hx
    obtain ⟨rfl, rfl, hk, hn, ⟨AB, mb, cb, rfl, hB⟩, ⟨AL, cL, rfl, hlc, hl⟩, ⟨AD, cD, rfl, hdc, hd⟩⟩ := hx
    rw [Ob.sz] at hN
    unfold okO at hok
    obtain ⟨ok1, ok2, ok3, ok4, ok5⟩ := hok
    have hmb : b.length = mb := hB.1
    obtain ⟨LL, hLL⟩ : ∃ LL, l.len = LL := ⟨_, rfl⟩
    obtain ⟨DD, hDD⟩ : ∃ DD, d.len = DD := ⟨_, rfl⟩
    rw [hLL] at hlc ok2 ⊢
    rw [hDD] at hdc ok3 ⊢
    rw [hmb] at ok1
    have HW1 := Lib.hid ((Below.refl w.heap.size w).alloc (Nat.le_refl _) (.cells #[.int .i64 k, .int .i64 n, .slice AB mb cb, .slice AL LL cL, .slice AD DD cD] 26))
    have hn1 := heap_alloc_new w (.cells #[.int .i64 k, .int .i64 n, .slice AB mb cb, .slice AL LL cL, .slice AD DD cD] 26)
    obtain ⟨W0, hW0⟩ : ∃ W0, w.alloc (.cells #[.int .i64 k, .int .i64 n, .slice AB mb cb, .slice AL LL cL, .slice AD DD cD] 26) = W0 := ⟨_, rfl⟩
    have hs0 : W0.heap.size = w.heap.size + 1 := by rw [← hW0]; simp
    rw [hW0] at HW1 hn1
    have hb2 := (Below.refl W0.heap.size W0).alloc (Nat.le_refl _) (.cells #[.int .i64 0, .int .i64 0, .slice none 0 0, .slice none 0 0, .slice none 0 0] 26)
    have hn2 := heap_alloc_new W0 (.cells #[.int .i64 0, .int .i64 0, .slice none 0 0, .slice none 0 0, .slice none 0 0] 26)
    obtain ⟨W1, hW1⟩ : ∃ W1, W0.alloc (.cells #[.int .i64 0, .int .i64 0, .slice none 0 0, .slice none 0 0, .slice none 0 0] 26) = W1 := ⟨_, rfl⟩
    have hs1 : W1.heap.size = w.heap.size + 2 := by rw [← hW1]; simp; omega
    rw [hW1] at hb2 hn2
    rw [hs0] at hn2
    have HBX : Hid (W1.drew.heap[w.heap.size]? = some (.cells #[.int .i64 k, .int .i64 n, .slice AB mb cb, .slice AL LL cL, .slice AD DD cD] 26 (0, 0))) := Lib.hid ((hb2.block w.heap.size (by omega)).trans hn1)
    have HRS : Hid (W1.drew.heap[w.heap.size + 1]? = some (.cells #[.int .i64 0, .int .i64 0, .slice none 0 0, .slice none 0 0, .slice none 0 0] 26 (0, 0))) := Lib.hid hn2
    have HB : Hid (Below w.heap.size w W1.drew) := Lib.hid (HW1.out.trans (hb2.mono (by omega))).drew
    have HSZ0 : Hid (w.heap.size + 2 ≤ W1.heap.size) := Lib.hid (Nat.le_of_eq hs1.symm)
    have HB0 : Hid (Below w.heap.size w (W1.alloc (.cells #[.int .i64 0, .int .i64 0, .slice none 0 0, .slice none 0 0, .slice none 0 0] 26)).drew) := Lib.hid ((HW1.out.trans (hb2.mono (by omega))).alloc (by omega) _).drew
    have HSZ : Hid (w.heap.size + 2 ≤ W1.drew.heap.size) := Lib.hid (Nat.le_of_eq hs1.symm)
    have b0 : W1.cell? ⟨w.heap.size, 0, none⟩ = some (.int .i64 k) := cell_of_row W1.drew _ 0 _ _ (0, 0) HBX.out
    have b1 : W1.cell? ⟨w.heap.size, 1, none⟩ = some (.int .i64 n) := cell_of_row W1.drew _ 1 _ _ (0, 0) HBX.out
    have b2 : W1.cell? ⟨w.heap.size, 2, none⟩ = some (.slice AB mb cb) := cell_of_row W1.drew _ 2 _ _ (0, 0) HBX.out
    have bd0 : W1.drew.cell? ⟨w.heap.size, 0, none⟩ = some (.int .i64 k) := b0
    have bd1 : W1.drew.cell? ⟨w.heap.size, 1, none⟩ = some (.int .i64 n) := b1
    have bd2 : W1.drew.cell? ⟨w.heap.size, 2, none⟩ = some (.slice AB mb cb) := b2
    have HCP := Lib.hid (fun W (hW : Below w.heap.size w W) => refCopy AB mb cb b W ((hB.byt hS).below hW (Nat.le_refl _) |>.more hW.size) ok1)
    have HS0 := Lib.hid hs0
    have HL := Lib.hid hl
    have HD := Lib.hid hd
    have HS := Lib.hid hS
    have HLL := Lib.hid hLL
    have HDD := Lib.hid hDD
    have HN := Lib.hid hN
    have HO4 := Lib.hid ok4
    have HO5 := Lib.hid ok5
    have HMB := Lib.hid hmb
    clear hl hd hS hB hn1 hb2 hn2 hs0 hs1 hLL hDD hN ok1 ok4 ok5 HW1 hmb
    go_enter Tryd.func18, Tryd.ntmps18
    go_upto_region 1 with fail
    rename_i KR hKR
    suffices hrest : ∀ (u6 u7 u8 u9 u10 u11 u12 u13 : Value) (gO base cb2 : Nat) (AB2 : Option Addr) (wx : World), Hid (CpS w wx base gO #[.int .i64 k, .int .i64 n, .slice AB mb cb, .slice AL LL cL, .slice AD DD cD] k n AB2 mb cb2 b (.slice none 0 0) (.slice none 0 0)) → KR { tmps := #[.agg #[.int .i64 k, .int .i64 n, .slice AB mb cb, .slice AL LL cL, .slice AD DD cD], .pointer (some ⟨w.heap.size, 0, none⟩), .pointer (some ⟨W0.heap.size, 0, none⟩), .pointer (some ⟨gO, 0, none⟩), undef, undef, u6, u7, u8, u9, u10, u11, u12, u13, undef, undef, undef, undef, undef, undef, undef, undef, undef, undef, undef, undef, undef, undef, undef, undef, undef, undef, undef, undef, undef, undef, undef, undef, undef, undef, undef, undef, undef, undef, undef, undef, undef, undef, undef, undef, undef, undef, undef, undef, undef, undef, undef, undef, undef], defers := [] } wx by
      clear hKR
      go_region_held3 (fun w' => w'.cell? ⟨w.heap.size, 0, none⟩ = some (.int .i64 k) ∧ w'.cell? ⟨w.heap.size, 1, none⟩ = some (.int .i64 n) ∧ w'.cell? ⟨w.heap.size, 2, none⟩ = some (.slice AB mb cb)) (first | with_reducible exact ⟨bd0, bd1, bd2⟩ | with_reducible exact ⟨c0, c1, c2⟩ | exact ⟨cell_of_row _ _ 0 _ _ (0, 0) (blk_set5 HBX.out (ne2 HGL.out)), cell_of_row _ _ 1 _ _ (0, 0) (blk_set5 HBX.out (ne2 HGL.out)), cell_of_row _ _ 2 _ _ (0, 0) (blk_set5 HBX.out (ne2 HGL.out))⟩ | go_keep)
       (first
        | (go_simp; go_at_call 19; (first | with_reducible refine (HCP.out _ HB.out).mono ?_ | with_reducible refine (HCP.out _ HB0.out).mono ?_); (rintro r wN ⟨vB, rfl, hmB, hbN⟩); (first | (have hx := alloc_split9d hbN; have HGL := Lib.hid HSZ.out; have HG := Lib.hid hx.2; have hb2 := hx.1; clear hx) | (have hb2 := hbN)); have HB := Lib.hid (HB.out.trans (hb2.mono HB.out.size)); have HBX := Lib.hid (blk_keep9 hb2 HBX.out); have HRS := Lib.hid (blk_keep9 hb2 HRS.out); have HSZ := Lib.hid (Nat.le_trans HSZ.out hb2.size); have HMB2 := Lib.hid hmB; obtain ⟨AB2, cb2, rfl, hby⟩ := hmB.bytS; have HBY := Lib.hid hby; have c0 : wN.cell? ⟨w.heap.size, 0, none⟩ = some (.int .i64 k) := cell_of_row wN _ 0 _ _ (0, 0) HBX.out; have c1 : wN.cell? ⟨w.heap.size, 1, none⟩ = some (.int .i64 n) := cell_of_row wN _ 1 _ _ (0, 0) HBX.out; have c2 : wN.cell? ⟨w.heap.size, 2, none⟩ = some (.slice AB mb cb) := cell_of_row wN _ 2 _ _ (0, 0) HBX.out; (first | (have q0 := (zero_cells HG.out).1; have q1 := (zero_cells HG.out).2.1; have q2 := (zero_cells HG.out).2.2.1; have q3 := (zero_cells HG.out).2.2.2.1; have q4 := (zero_cells HG.out).2.2.2.2.1; have q5 := (zero_cells HG.out).2.2.2.2.2) | skip); clear hbN hb2 hmB hby))
      · exact hrest _ _ _ _ _ _ _ _ _ _ _ _ _ (Lib.hid (CpS.new1 HB.out HBX.out HRS.out HSZ.out HBY.out (fun g hg => ⟨by have h1 := HSZ0.out; have h2 : W1.heap.size ≤ g := hg.1; omega, hg.2⟩)))
      · exact hrest _ _ _ _ _ _ _ _ _ _ _ _ _ (Lib.hid (CpS.new2 HB.out HBX.out HRS.out HG.out HGL.out HBY.out (fun g hg => by
          have h1 := HSZ0.out
          have h2 : (W1.alloc (.cells #[.int .i64 0, .int .i64 0, .slice none 0 0, .slice none 0 0, .slice none 0 0] 26)).heap.size ≤ g := hg.1
          rw [World.size_alloc] at h2
          exact ⟨by omega, hg.2, by omega⟩)))
    intro u6 u7 u8 u9 u10 u11 u12 u13 gO base cb2 AB2 wx HCS
    refine hKR _ _ ?_
    rw [HS0.out]
    clear hKR KR HS0 b0 b1 b2 bd0 bd1 bd2 HCP HB HB0 HBX HRS HSZ HSZ0 hW0 hW1
    go_wp2_with fail
    go_loopw [4] (fun iv wr => ∃ (i cV : Nat) (AV : Option Addr), i ≤ LL ∧ iv = .int .i64 i ∧ Hid (CpS w wr base gO #[.int .i64 k, .int .i64 n, .slice AB mb cb, .slice AL LL cL, .slice AD DD cD] k n AB2 mb cb2 b (.slice AV i cV) (.slice none 0 0)) ∧ Hid (OwnO noneT wr base (.slice AV i cV) (l.takeN i))) (fun iv _ => LL - (intOf iv).toNat)
    case atStart => exact ⟨0, 0, none, Nat.zero_le _, rfl, HCS, Lib.hid (by rw [Obs.take_zero]; exact OwnO.nil _ _ _)⟩
    case round =>
      obtain ⟨i, cV, AV, hi, rfl, HCM, HOW⟩ := hrel
      have hww : Below w.heap.size w wr := HCM.out.low
      by_cases hlt : i < LL
      · have hgt := l.get_some i (by rw [HLL.out]; exact hlt)
        obtain ⟨y, hy⟩ := hgt
        obtain ⟨g, o, rfl, hg, hobs⟩ := HL.out (by rw [HLL.out]; omega)
        have hobs2 := ObsR.keep (S' := S) (fun b hb => hww.block b (HS.out b hb)) (fun b hb => hb) l g o hg hg hobs
        obtain ⟨d0, d1, d2, d3, d4, k0, k1, k2, k3, k4, hyr⟩ := hobs2.get l g o i y hy
        have hgw : g < w.heap.size := HS.out g hg
        have HEL : Hid (∀ W, CpS w W base gO #[.int .i64 k, .int .i64 n, .slice AB mb cb, .slice (some ⟨g, o, none⟩) LL cL, .slice AD DD cD] k n AB2 mb cb2 b (.slice AV i cV) (.slice none 0 0) → W.cell? ⟨w.heap.size, 3, none⟩ = some (.slice (some ⟨g, o, none⟩) LL cL) ∧ W.cell? ⟨g, o + i * 5, none⟩ = some d0 ∧ W.cell? ⟨g, o + i * 5 + 1, none⟩ = some d1 ∧ W.cell? ⟨g, o + i * 5 + 2, none⟩ = some d2 ∧ W.cell? ⟨g, o + i * 5 + 3, none⟩ = some d3 ∧ W.cell? ⟨g, o + i * 5 + 4, none⟩ = some d4 ∧ W.cell? ⟨gO, 3, none⟩ = some (.slice AV i cV)) := Lib.hid (fun W hW => by
          have e := fun j => (World.cell?_of_block (a := ⟨g, j, none⟩) (hW.low.block g hgw)).trans (World.cell?_of_block (a := ⟨g, j, none⟩) (hww.block g hgw)).symm
          exact ⟨cell_of_row _ _ 3 _ _ (0, 0) hW.box, (e _).trans k0, (e _).trans k1, (e _).trans k2, (e _).trans k3, (e _).trans k4, cell_of_row _ _ 3 _ _ (0, 0) hW.out⟩)
        have hysz := l.get_sz i y hy
        have HI := Lib.hid (IH.out y (by have := HN.out; omega) (okL_get l i y HO4.out hy) S wr.drew d0 d1 d2 d3 d4 (ObR.keep (w := wr) (w' := wr.drew) (S := S) (S' := S) (fun _ _ => rfl) (fun _ h => h) y hyr) (fun b hb => Nat.lt_of_lt_of_le (HS.out b hb) hww.size))
        have hti : (l.takeN i).len = i := Obs.take_len l i (by rw [HLL.out]; exact hi)
        have HTI := Lib.hid hti
        have HTS := Lib.hid (Obs.take_snoc l i y hy)
        have hli : (i : Int) < LL := by omega
        obtain ⟨m3, m4, m5, m6, m7, m8, m9⟩ := HEL.out wr HCM.out
        obtain ⟨a3, a4, a5, a6, a7, a8, a9⟩ := HEL.out wr.drew HCM.out.drew
        clear hy hobs hobs2 hyr hysz hti hg hgw k0 k1 k2 k3 k4
        go_upto_region 5 with fail
        refine wp_region_heldR (fun w' => w'.cell? ⟨w.heap.size, 3, none⟩ = some (.slice (some ⟨g, o, none⟩) LL cL) ∧ w'.cell? ⟨g, o + i * 5, none⟩ = some d0 ∧ w'.cell? ⟨g, o + i * 5 + 1, none⟩ = some d1 ∧ w'.cell? ⟨g, o + i * 5 + 2, none⟩ = some d2 ∧ w'.cell? ⟨g, o + i * 5 + 3, none⟩ = some d3 ∧ w'.cell? ⟨g, o + i * 5 + 4, none⟩ = some d4 ∧ w'.cell? ⟨gO, 3, none⟩ = some (.slice AV i cV)) 11 (by kernel_rfl) ⟨a3, a4, a5, a6, a7, a8, a9⟩ (fun hHeld => ?_)
        refine wpAnyR_take 0 rfl (by kernel_rfl) (by kernel_rfl) (by kernel_rfl) (by kernel_rfl) (fun _ _ _ h => h) (by rfl) (v := ?_) ?_ (by assumption) ?_
        rotate_left
        focus
          intro wS hSw
          (try dsimp only at hSw)
          go_simp
          try with_reducible rfl
        intro hHeld
        try simp only [Act.put, List.setIfInBounds_toArray, List.set_cons_zero, List.set_cons_succ]
        refine wpAnyR_take 1 rfl (by kernel_rfl) (by kernel_rfl) (by kernel_rfl) (by kernel_rfl) (fun _ _ _ h => h) (by rfl) (v := ?_) ?_ (by assumption) ?_
        rotate_left
        focus
          intro wS hSw
          (try dsimp only at hSw)
          go_simp
          try with_reducible rfl
        intro hHeld
        try simp only [Act.put, List.setIfInBounds_toArray, List.set_cons_zero, List.set_cons_succ]
        refine wpAnyR_take 2 rfl (by kernel_rfl) (by kernel_rfl) (by kernel_rfl) (by kernel_rfl) (fun _ _ _ h => h) (by rfl) (v := ?_) ?_ (by assumption) ?_
        rotate_left
        focus
          intro wS hSw
          (try dsimp only at hSw)
          go_simp
          try with_reducible rfl
        intro hHeld
        try simp only [Act.put, List.setIfInBounds_toArray, List.set_cons_zero, List.set_cons_succ]
        refine wpAnyR_take 3 rfl (by kernel_rfl) (by kernel_rfl) (by kernel_rfl) (by kernel_rfl) (fun _ _ _ h => h) (by rfl) (v := ?_) ?_ (by assumption) ?_
        rotate_left
        focus
          intro wS hSw
          (try dsimp only at hSw)
          go_simp
          try with_reducible rfl
        intro hHeld
        try simp only [Act.put, List.setIfInBounds_toArray, List.set_cons_zero, List.set_cons_succ]
        refine wpAnyR_take 4 rfl (by kernel_rfl) (by kernel_rfl) (by kernel_rfl) (by kernel_rfl) (fun _ _ _ h => h) (by rfl) (v := ?_) ?_ (by assumption) ?_
        rotate_left
        focus
          intro wS hSw
          (try dsimp only at hSw)
          go_simp
          try with_reducible rfl
        intro hHeld
        try simp only [Act.put, List.setIfInBounds_toArray, List.set_cons_zero, List.set_cons_succ]
        refine wpAnyR_take 5 rfl (by kernel_rfl) (by kernel_rfl) (by kernel_rfl) (by kernel_rfl) (fun _ _ _ h => h) (by rfl) (v := ?_) ?_ (by assumption) ?_
        rotate_left
        focus
          intro wS hSw
          (try dsimp only at hSw)
          go_simp
          try with_reducible rfl
        intro hHeld
        try simp only [Act.put, List.setIfInBounds_toArray, List.set_cons_zero, List.set_cons_succ]
        refine wpAnyR_take 6 rfl (by kernel_rfl) (by kernel_rfl) (by kernel_rfl) (by kernel_rfl) (fun _ _ _ h => h) (by rfl) (v := ?_) ?_ (by assumption) ?_
        rotate_left
        focus
          intro wS hSw
          (try dsimp only at hSw)
          go_simp
          try with_reducible rfl
        intro hHeld
        try simp only [Act.put, List.setIfInBounds_toArray, List.set_cons_zero, List.set_cons_succ]
        refine wpAnyR_step 7 rfl (by kernel_rfl) (fun K hK => ?_)
        go_simp
        go_at_call 18
        with_reducible refine HI.out.mono ?_
        rintro r w2 ⟨e0, e1, e2, e3, e4, rfl, hy2, hb2⟩
        have HAP := Lib.hid (HOW.out.drew.lit hb2 y hy2 (by rw [HTI.out]; omega) HCM.out.g2 (fun _ h => h.elim))
        have HCM2 := Lib.hid (HCM.out.drew.step (hb2.mono HCM.out.g2))
        obtain ⟨p3, p4, p5, p6, p7, p8, p9⟩ := HEL.out w2 HCM2.out
        clear hy2 hb2
        go_wp2_with fail
        refine hK.out _ _ (⟨p3, p4, p5, p6, p7, p8, p9⟩) (fun hHeld => ?_)
        clear hK K
        try simp only [Act.put, List.setIfInBounds_toArray, List.set_cons_zero, List.set_cons_succ]
        refine wpAnyR_step 8 rfl (by kernel_rfl) (fun K hK => ?_)
        go_simp
        refine hK.out _ _ (by go_keep) (fun hHeld => ?_)
        clear hK K
        try simp only [Act.put, List.setIfInBounds_toArray, List.set_cons_zero, List.set_cons_succ]
        refine wpAnyR_step 9 rfl (by kernel_rfl) (fun K hK => ?_)
        obtain ⟨A6, c6, w3, hrun, ho6, hb6⟩ := HAP.out
        rw [HTI.out] at hrun ho6
        refine step_append_run9 rfl (.tmp 22) (.tmp 29) 23 rfl (.slice AV i cV) (.slice (some ⟨w2.heap.size, 0, none⟩) 1 1) rfl rfl hrun ?_
        have HCM3 := Lib.hid (HCM2.out.step hb6)
        have fz : w3.frozen? ⟨gO, 3, none⟩ = false := by (have := HCM3.out.out; simp [World.frozen?, this])
        obtain ⟨r3, r4, r5, r6, r7, r8, r9⟩ := HEL.out w3 HCM3.out
        have HCM4 := Lib.hid (HCM3.out.put3 (.slice A6 (i + 1) c6))
        have HOW4 := Lib.hid (OwnO.keepB ho6 ((Only.refl gO w3).set_ 3 (.slice A6 (i + 1) c6)) HCM3.out.g1 (fun h => h))
        rw [← HTS.out] at HOW4
        clear hrun ho6 hb6
        refine hK.out _ _ (⟨r3, r4, r5, r6, r7, r8, r9⟩) (fun hHeld => ?_)
        clear hK K
        try simp only [Act.put, List.setIfInBounds_toArray, List.set_cons_zero, List.set_cons_succ]
        refine wpAnyR_take 10 rfl (by kernel_rfl) (by kernel_rfl) (by kernel_rfl) (by kernel_rfl) (fun _ _ _ h => h) (by rfl) (v := ?_) ?_ (by assumption) ?_
        rotate_left
        focus
          intro wS hSw
          (try dsimp only at hSw)
          go_simp
          try with_reducible rfl
        intro hHeld
        try simp only [Act.put, List.setIfInBounds_toArray, List.set_cons_zero, List.set_cons_succ]
        refine wpAnyR_last rfl (by kernel_rfl) (by kernel_rfl) (fun K hK => ?_)
        go_simp
        refine hK.out _ _ ?_
        clear hK K
        refine NoPanic.normal ?_
        go_wp2_with fail
        go_roundw
        case rel => exact ⟨i + 1, c6, A6, by omega, by go_num, HCM4, HOW4⟩
        case measure => simp [intOf]; omega
      · obtain rfl : LL = i := by omega
        have hOW := HOW.out
        rw [show l.takeN LL = l by rw [← HLL.out]; exact Obs.take_all l] at hOW
        obtain ⟨AX, cX, eX, hcX, hxX⟩ := hOW.shape
        obtain ⟨rfl, hLX, rfl⟩ : AV = AX ∧ LL = l.len ∧ cV = cX := by
          injection eX with e1 e2 e3
          exact ⟨e1, e2, e3⟩
        have HCX := Lib.hid hcX
        obtain ⟨base2, hb2⟩ : ∃ base2, wr.heap.size = base2 := ⟨_, rfl⟩
        have HC2 := Lib.hid (HCM.out.more (base2 := base2) (by rw [← hb2]; exact HCM.out.g2) (Nat.le_of_eq hb2.symm))
        have HLS : Hid (LsP w wr base2 gO l AV) := Lib.hid (fun h0 => by
          obtain ⟨g, o, e, hg, hx⟩ := hxX h0
          have key : ∀ x, (noneT x ∨ base ≤ x) ∧ x < wr.heap.size → S1 w base2 gO x := fun x hx => by
            have h1 : base ≤ x := by
              rcases hx.1 with h | h
              · exact h.elim
              · exact h
            have h2 := HCM.out.g0
            have h3 := HCM.out.g1
            exact ⟨by omega, by rw [← hb2]; exact hx.2, by omega⟩
          exact ⟨g, o, e, key g hg, ObsR.keep (fun _ _ => rfl) key l g o (key g hg) hg hx⟩)
        have HB2 : Hid (base2 ≤ wr.heap.size) := Lib.hid (Nat.le_of_eq hb2.symm)
        have m3 : wr.cell? ⟨w.heap.size, 3, none⟩ = some (.slice AL LL cL) := cell_of_row _ _ 3 _ _ (0, 0) HCM.out.box
        clear hOW eX hcX hxX hLX hb2 HCM HOW hww hlt
        go_wp2_with fail
        clear m3
        go_loopw [5] (fun iv wr => ∃ (i cE : Nat) (AE : Option Addr), i ≤ DD ∧ iv = .int .i64 i ∧ Hid (CpS w wr base2 gO #[.int .i64 k, .int .i64 n, .slice AB mb cb, .slice AL LL cL, .slice AD DD cD] k n AB2 mb cb2 b (.slice AV LL cV) (.slice AE i cE)) ∧ Hid (LsP w wr base2 gO l AV) ∧ Hid (OwnE noneT wr base2 (.slice AE i cE) (d.takeN i))) (fun iv _ => DD - (intOf iv).toNat)
        case atStart => exact ⟨0, 0, none, Nat.zero_le _, rfl, HC2, HLS, Lib.hid (by rw [Ens.take_zero]; exact OwnE.nil _ _ _)⟩
        case round =>
          obtain ⟨i, cE, AE, hi, rfl, HCM, HLM, HOW⟩ := hrel
          have hww : Below w.heap.size w wr := HCM.out.low
          by_cases hlt : i < DD
          · have hgt := d.get_some i (by rw [HDD.out]; exact hlt)
            obtain ⟨sy, y, hy⟩ := hgt
            obtain ⟨g, o, rfl, hg, hobs⟩ := HD.out (by rw [HDD.out]; omega)
            have hobs2 := EnsR.keep (S' := S) (fun b hb => hww.block b (HS.out b hb)) (fun b hb => hb) d g o hg hg hobs
            obtain ⟨d0, d1, d2, d3, d4, ks, k0, k1, k2, k3, k4, hyr⟩ := hobs2.get d g o i sy y hy
            have hgw : g < w.heap.size := HS.out g hg
            have HEL : Hid (∀ W, CpS w W base2 gO #[.int .i64 k, .int .i64 n, .slice AB mb cb, .slice AL LL cL, .slice (some ⟨g, o, none⟩) DD cD] k n AB2 mb cb2 b (.slice AV LL cV) (.slice AE i cE) → W.cell? ⟨w.heap.size, 4, none⟩ = some (.slice (some ⟨g, o, none⟩) DD cD) ∧ W.cell? ⟨g, o + i * 6, none⟩ = some (.string sy) ∧ W.cell? ⟨g, o + i * 6 + 1, none⟩ = some d0 ∧ W.cell? ⟨g, o + i * 6 + 2, none⟩ = some d1 ∧ W.cell? ⟨g, o + i * 6 + 3, none⟩ = some d2 ∧ W.cell? ⟨g, o + i * 6 + 4, none⟩ = some d3 ∧ W.cell? ⟨g, o + i * 6 + 5, none⟩ = some d4 ∧ W.cell? ⟨gO, 4, none⟩ = some (.slice AE i cE)) := Lib.hid (fun W hW => by
              have e := fun j => (World.cell?_of_block (a := ⟨g, j, none⟩) (hW.low.block g hgw)).trans (World.cell?_of_block (a := ⟨g, j, none⟩) (hww.block g hgw)).symm
              exact ⟨cell_of_row _ _ 4 _ _ (0, 0) hW.box, (e _).trans ks, (e _).trans k0, (e _).trans k1, (e _).trans k2, (e _).trans k3, (e _).trans k4, cell_of_row _ _ 4 _ _ (0, 0) hW.out⟩)
            have hysz := d.get_sz i sy y hy
            have HI := Lib.hid (IH.out y (by have := HN.out; omega) (okE_get d i sy y HO5.out hy) S wr.drew d0 d1 d2 d3 d4 (ObR.keep (w := wr) (w' := wr.drew) (S := S) (S' := S) (fun _ _ => rfl) (fun _ h => h) y hyr) (fun b hb => Nat.lt_of_lt_of_le (HS.out b hb) hww.size))
            have hti : (d.takeN i).len = i := Ens.take_len d i (by rw [HDD.out]; exact hi)
            have HTI := Lib.hid hti
            have HTS := Lib.hid (Ens.take_snoc d i sy y hy)
            have hli : (i : Int) < DD := by omega
            obtain ⟨m3, m4, m5, m6, m7, m8, m9, m10⟩ := HEL.out wr HCM.out
            obtain ⟨a3, a4, a5, a6, a7, a8, a9, a10⟩ := HEL.out wr.drew HCM.out.drew
            clear hy hobs hobs2 hyr hysz hti hg hgw ks k0 k1 k2 k3 k4
            go_upto_region 9 with fail
            refine wp_region_heldR (fun w' => w'.cell? ⟨w.heap.size, 4, none⟩ = some (.slice (some ⟨g, o, none⟩) DD cD) ∧ w'.cell? ⟨g, o + i * 6, none⟩ = some (.string sy) ∧ w'.cell? ⟨g, o + i * 6 + 1, none⟩ = some d0 ∧ w'.cell? ⟨g, o + i * 6 + 2, none⟩ = some d1 ∧ w'.cell? ⟨g, o + i * 6 + 3, none⟩ = some d2 ∧ w'.cell? ⟨g, o + i * 6 + 4, none⟩ = some d3 ∧ w'.cell? ⟨g, o + i * 6 + 5, none⟩ = some d4 ∧ w'.cell? ⟨gO, 4, none⟩ = some (.slice AE i cE)) 19 (by kernel_rfl) ⟨a3, a4, a5, a6, a7, a8, a9, a10⟩ (fun hHeld => ?_)
            refine wpAnyR_take 0 rfl (by kernel_rfl) (by kernel_rfl) (by kernel_rfl) (by kernel_rfl) (fun _ _ _ h => h) (by rfl) (v := ?_) ?_ (by assumption) ?_
            rotate_left
            focus
              intro wS hSw
              (try dsimp only at hSw)
              go_simp
              try with_reducible rfl
            intro hHeld
            try simp only [Act.put, List.setIfInBounds_toArray, List.set_cons_zero, List.set_cons_succ]
            refine wpAnyR_take 1 rfl (by kernel_rfl) (by kernel_rfl) (by kernel_rfl) (by kernel_rfl) (fun _ _ _ h => h) (by rfl) (v := ?_) ?_ (by assumption) ?_
            rotate_left
            focus
              intro wS hSw
              (try dsimp only at hSw)
              go_simp
              try with_reducible rfl
            intro hHeld
            try simp only [Act.put, List.setIfInBounds_toArray, List.set_cons_zero, List.set_cons_succ]
            refine wpAnyR_take 2 rfl (by kernel_rfl) (by kernel_rfl) (by kernel_rfl) (by kernel_rfl) (fun _ _ _ h => h) (by rfl) (v := ?_) ?_ (by assumption) ?_
            rotate_left
            focus
              intro wS hSw
              (try dsimp only at hSw)
              go_simp
              try with_reducible rfl
            intro hHeld
            try simp only [Act.put, List.setIfInBounds_toArray, List.set_cons_zero, List.set_cons_succ]
            refine wpAnyR_take 3 rfl (by kernel_rfl) (by kernel_rfl) (by kernel_rfl) (by kernel_rfl) (fun _ _ _ h => h) (by rfl) (v := ?_) ?_ (by assumption) ?_
            rotate_left
            focus
              intro wS hSw
              (try dsimp only at hSw)
              go_simp
              try with_reducible rfl
            intro hHeld
            try simp only [Act.put, List.setIfInBounds_toArray, List.set_cons_zero, List.set_cons_succ]
            refine wpAnyR_take 4 rfl (by kernel_rfl) (by kernel_rfl) (by kernel_rfl) (by kernel_rfl) (fun _ _ _ h => h) (by rfl) (v := ?_) ?_ (by assumption) ?_
            rotate_left
            focus
              intro wS hSw
              (try dsimp only at hSw)
              go_simp
              try with_reducible rfl
            intro hHeld
            try simp only [Act.put, List.setIfInBounds_toArray, List.set_cons_zero, List.set_cons_succ]
            refine wpAnyR_take 5 rfl (by kernel_rfl) (by kernel_rfl) (by kernel_rfl) (by kernel_rfl) (fun _ _ _ h => h) (by rfl) (v := ?_) ?_ (by assumption) ?_
            rotate_left
            focus
              intro wS hSw
              (try dsimp only at hSw)
              go_simp
              try with_reducible rfl
            intro hHeld
            try simp only [Act.put, List.setIfInBounds_toArray, List.set_cons_zero, List.set_cons_succ]
            refine wpAnyR_take 6 rfl (by kernel_rfl) (by kernel_rfl) (by kernel_rfl) (by kernel_rfl) (fun _ _ _ h => h) (by rfl) (v := ?_) ?_ (by assumption) ?_
            rotate_left
            focus
              intro wS hSw
              (try dsimp only at hSw)
              go_simp
              try with_reducible rfl
            intro hHeld
            try simp only [Act.put, List.setIfInBounds_toArray, List.set_cons_zero, List.set_cons_succ]
            refine wpAnyR_take 7 rfl (by kernel_rfl) (by kernel_rfl) (by kernel_rfl) (by kernel_rfl) (fun _ _ _ h => h) (by rfl) (v := ?_) ?_ (by assumption) ?_
            rotate_left
            focus
              intro wS hSw
              (try dsimp only at hSw)
              go_simp
              try with_reducible rfl
            intro hHeld
            try simp only [Act.put, List.setIfInBounds_toArray, List.set_cons_zero, List.set_cons_succ]
            refine wpAnyR_take 8 rfl (by kernel_rfl) (by kernel_rfl) (by kernel_rfl) (by kernel_rfl) (fun _ _ _ h => h) (by rfl) (v := ?_) ?_ (by assumption) ?_
            rotate_left
            focus
              intro wS hSw
              (try dsimp only at hSw)
              go_simp
              try with_reducible rfl
            intro hHeld
            try simp only [Act.put, List.setIfInBounds_toArray, List.set_cons_zero, List.set_cons_succ]
            refine wpAnyR_take 9 rfl (by kernel_rfl) (by kernel_rfl) (by kernel_rfl) (by kernel_rfl) (fun _ _ _ h => h) (by rfl) (v := ?_) ?_ (by assumption) ?_
            rotate_left
            focus
              intro wS hSw
              (try dsimp only at hSw)
              go_simp
              try with_reducible rfl
            intro hHeld
            try simp only [Act.put, List.setIfInBounds_toArray, List.set_cons_zero, List.set_cons_succ]
            refine wpAnyR_take 10 rfl (by kernel_rfl) (by kernel_rfl) (by kernel_rfl) (by kernel_rfl) (fun _ _ _ h => h) (by rfl) (v := ?_) ?_ (by assumption) ?_
            rotate_left
            focus
              intro wS hSw
              (try dsimp only at hSw)
              go_simp
              try with_reducible rfl
            intro hHeld
            try simp only [Act.put, List.setIfInBounds_toArray, List.set_cons_zero, List.set_cons_succ]
            refine wpAnyR_take 11 rfl (by kernel_rfl) (by kernel_rfl) (by kernel_rfl) (by kernel_rfl) (fun _ _ _ h => h) (by rfl) (v := ?_) ?_ (by assumption) ?_
            rotate_left
            focus
              intro wS hSw
              (try dsimp only at hSw)
              go_simp
              try with_reducible rfl
            intro hHeld
            try simp only [Act.put, List.setIfInBounds_toArray, List.set_cons_zero, List.set_cons_succ]
            refine wpAnyR_take 12 rfl (by kernel_rfl) (by kernel_rfl) (by kernel_rfl) (by kernel_rfl) (fun _ _ _ h => h) (by rfl) (v := ?_) ?_ (by assumption) ?_
            rotate_left
            focus
              intro wS hSw
              (try dsimp only at hSw)
              go_simp
              try with_reducible rfl
            intro hHeld
            try simp only [Act.put, List.setIfInBounds_toArray, List.set_cons_zero, List.set_cons_succ]
            refine wpAnyR_take 13 rfl (by kernel_rfl) (by kernel_rfl) (by kernel_rfl) (by kernel_rfl) (fun _ _ _ h => h) (by rfl) (v := ?_) ?_ (by assumption) ?_
            rotate_left
            focus
              intro wS hSw
              (try dsimp only at hSw)
              go_simp
              try with_reducible rfl
            intro hHeld
            try simp only [Act.put, List.setIfInBounds_toArray, List.set_cons_zero, List.set_cons_succ]
            refine wpAnyR_step 14 rfl (by kernel_rfl) (fun K hK => ?_)
            go_simp
            go_at_call 18
            with_reducible refine HI.out.mono ?_
            rintro r w2 ⟨e0, e1, e2, e3, e4, rfl, hy2, hb2⟩
            have HAP := Lib.hid (HOW.out.drew.lit hb2 sy y hy2 (by rw [HTI.out]; omega) HCM.out.g2 (fun _ h => h.elim))
            have HCM2 := Lib.hid (HCM.out.drew.step (hb2.mono HCM.out.g2))
            have HLM2 := Lib.hid (HLM.out.keep (fun g hg _ => (hb2.mono HCM.out.g2).block g hg))
            obtain ⟨p3, p4, p5, p6, p7, p8, p9, p10⟩ := HEL.out w2 HCM2.out
            clear hy2 hb2
            go_wp2_with fail
            refine hK.out _ _ (⟨p3, p4, p5, p6, p7, p8, p9, p10⟩) (fun hHeld => ?_)
            clear hK K
            try simp only [Act.put, List.setIfInBounds_toArray, List.set_cons_zero, List.set_cons_succ]
            refine wpAnyR_take 15 rfl (by kernel_rfl) (by kernel_rfl) (by kernel_rfl) (by kernel_rfl) (fun _ _ _ h => h) (by rfl) (v := ?_) ?_ (by assumption) ?_
            rotate_left
            focus
              intro wS hSw
              (try dsimp only at hSw)
              go_simp
              try with_reducible rfl
            intro hHeld
            try simp only [Act.put, List.setIfInBounds_toArray, List.set_cons_zero, List.set_cons_succ]
            refine wpAnyR_step 16 rfl (by kernel_rfl) (fun K hK => ?_)
            go_simp
            refine hK.out _ _ (by go_keep) (fun hHeld => ?_)
            clear hK K
            try simp only [Act.put, List.setIfInBounds_toArray, List.set_cons_zero, List.set_cons_succ]
            refine wpAnyR_step 17 rfl (by kernel_rfl) (fun K hK => ?_)
            obtain ⟨A6, c6, w3, hrun, ho6, hb6⟩ := HAP.out
            rw [HTI.out] at hrun ho6
            refine step_append_run9 rfl (.tmp 40) (.tmp 55) 24 rfl (.slice AE i cE) (.slice (some ⟨w2.heap.size, 0, none⟩) 1 1) rfl rfl hrun ?_
            have HCM3 := Lib.hid (HCM2.out.step hb6)
            have HLM3 := Lib.hid (HLM2.out.keep (fun g hg _ => hb6.block g hg))
            have fz : w3.frozen? ⟨gO, 4, none⟩ = false := by (have := HCM3.out.out; simp [World.frozen?, this])
            obtain ⟨r3, r4, r5, r6, r7, r8, r9, r10⟩ := HEL.out w3 HCM3.out
            have HCM4 := Lib.hid (HCM3.out.put4 (.slice A6 (i + 1) c6))
            have HLM4 := Lib.hid (HLM3.out.keep (wr' := w3.setCell ⟨gO, 4, none⟩ (.slice A6 (i + 1) c6)) (fun g _ hg => set_blk9 w3 gO 4 g _ hg))
            have HOW4 := Lib.hid (OwnE.keepB ho6 ((Only.refl gO w3).set_ 4 (.slice A6 (i + 1) c6)) HCM3.out.g1 (fun h => h))
            rw [← HTS.out] at HOW4
            clear hrun ho6 hb6
            refine hK.out _ _ (⟨r3, r4, r5, r6, r7, r8, r9, r10⟩) (fun hHeld => ?_)
            clear hK K
            try simp only [Act.put, List.setIfInBounds_toArray, List.set_cons_zero, List.set_cons_succ]
            refine wpAnyR_take 18 rfl (by kernel_rfl) (by kernel_rfl) (by kernel_rfl) (by kernel_rfl) (fun _ _ _ h => h) (by rfl) (v := ?_) ?_ (by assumption) ?_
            rotate_left
            focus
              intro wS hSw
              (try dsimp only at hSw)
              go_simp
              try with_reducible rfl
            intro hHeld
            try simp only [Act.put, List.setIfInBounds_toArray, List.set_cons_zero, List.set_cons_succ]
            refine wpAnyR_last rfl (by kernel_rfl) (by kernel_rfl) (fun K hK => ?_)
            go_simp
            refine hK.out _ _ ?_
            clear hK K
            refine NoPanic.normal ?_
            go_wp2_with fail
            go_roundw
            case rel => exact ⟨i + 1, c6, A6, by omega, by go_num, HCM4, HLM4, HOW4⟩
            case measure => simp [intOf]; omega
          · obtain rfl : DD = i := by omega
            have m3 : wr.cell? ⟨w.heap.size, 4, none⟩ = some (.slice AD DD cD) := cell_of_row _ _ 4 _ _ (0, 0) HCM.out.box
            have g0 : wr.cell? ⟨gO, 0, none⟩ = some (.int .i64 k) := cell_of_row _ _ 0 _ _ (0, 0) HCM.out.out
            have g1 : wr.cell? ⟨gO, 1, none⟩ = some (.int .i64 n) := cell_of_row _ _ 1 _ _ (0, 0) HCM.out.out
            have g2 : wr.cell? ⟨gO, 2, none⟩ = some (.slice AB2 mb cb2) := cell_of_row _ _ 2 _ _ (0, 0) HCM.out.out
            have g3 : wr.cell? ⟨gO, 3, none⟩ = some (.slice AV LL cV) := cell_of_row _ _ 3 _ _ (0, 0) HCM.out.out
            have g4 : wr.cell? ⟨gO, 4, none⟩ = some (.slice AE DD cE) := cell_of_row _ _ 4 _ _ (0, 0) HCM.out.out
            obtain ⟨q0, q1, q2, q3, q4, q5⟩ := zero_cells HCM.out.res
            have hOW := HOW.out
            rw [show d.takeN DD = d by rw [← HDD.out]; exact Ens.take_all d] at hOW
            obtain ⟨AX, cY, eX, hcX, hxX⟩ := hOW.shape
            obtain ⟨rfl, hLX, rfl⟩ : AE = AX ∧ DD = d.len ∧ cE = cY := by
              injection eX with e1 e2 e3
              exact ⟨e1, e2, e3⟩
            have HXX := Lib.hid hxX
            have HCY := Lib.hid hcX
            clear hOW eX hxX hcX hLX hlt
            go_wp2_with fail
            have hg2 := HCM.out.g2
            have hg0 := HCM.out.g0
            have hg1 := HCM.out.g1
            refine bodyPost_ret (results_cell_row rfl _ _ (w.heap.size + 1) 26 _ (0, 0) _ rfl (set5_row HCM.out.res) Tryd.underlying26 rfl (by kernel_rfl)) rfl ?_
            refine ⟨_, _, _, _, _, rfl, ?_, below_set5 HCM.out.low (Nat.le_succ _)⟩
            unfold ObR
            refine ⟨rfl, rfl, hk, hn, ⟨AB2, mb, cb2, rfl, HCM.out.byt.keep (fun g hg => heap_set5 (by have := hg.1; omega)) (fun g hg => ⟨by have := hg.1; omega, by rw [size_set5]; have := hg.2.1; omega⟩)⟩, ⟨AV, cV, by rw [HLL.out], HCX.out, fun h0 => ?_⟩, ⟨AE, cE, by rw [HDD.out], HCY.out, fun h0 => ?_⟩⟩
            · obtain ⟨g, o, e, hg, hx⟩ := HLM.out h0
              have key : ∀ x, S1 w base2 gO x → w.heap.size ≤ x ∧ x < (((((wr.setCell ⟨w.heap.size + 1, 0, none⟩ (.int .i64 k)).setCell ⟨w.heap.size + 1, 1, none⟩ (.int .i64 n)).setCell ⟨w.heap.size + 1, 2, none⟩ (.slice AB2 mb cb2)).setCell ⟨w.heap.size + 1, 3, none⟩ (.slice AV LL cV)).setCell ⟨w.heap.size + 1, 4, none⟩ (.slice AE DD cE)).heap.size := fun x hx => by
                rw [size_set5]
                exact ⟨by have := hx.1; omega, by have := hx.2.1; omega⟩
              exact ⟨g, o, e, key g hg, ObsR.keep (fun x hx => heap_set5 (by have := hx.1; omega)) key l g o (key g hg) hg hx⟩
            · obtain ⟨g, o, e, hg, hx⟩ := HXX.out h0
              have key0 : ∀ x, (noneT x ∨ base2 ≤ x) ∧ x < wr.heap.size → base2 ≤ x := fun x hx => by
                rcases hx.1 with h | h
                · exact h.elim
                · exact h
              have key : ∀ x, (noneT x ∨ base2 ≤ x) ∧ x < wr.heap.size → w.heap.size ≤ x ∧ x < (((((wr.setCell ⟨w.heap.size + 1, 0, none⟩ (.int .i64 k)).setCell ⟨w.heap.size + 1, 1, none⟩ (.int .i64 n)).setCell ⟨w.heap.size + 1, 2, none⟩ (.slice AB2 mb cb2)).setCell ⟨w.heap.size + 1, 3, none⟩ (.slice AV LL cV)).setCell ⟨w.heap.size + 1, 4, none⟩ (.slice AE DD cE)).heap.size := fun x hx => by
                rw [size_set5]
                exact ⟨by have := key0 x hx; omega, hx.2⟩
              exact ⟨g, o, e, key g hg, EnsR.keep (fun x hx => heap_set5 (by have := key0 x hx; omega)) key d g o (key g hg) hg hx⟩
end
end Go.Proofs.YtliieeagbpmcgaaDoor
