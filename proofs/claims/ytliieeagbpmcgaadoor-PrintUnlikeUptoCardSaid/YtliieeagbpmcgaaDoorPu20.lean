/- Contracts of functions that the law calls, and what they lean on (a part). -/
import Derived.StillTailTactics
import Derived.Deep.Cut
import Derived.Deep.CutBlock
import Derived.Deep.LoopGhost
import Derived.Test.YtliieeagbpmcgaaDoorPu5
import Derived.Test.YtliieeagbpmcgaaDoorPu16
namespace Go.Proofs.YtliieeagbpmcgaaDoor
section
open Go.RowKit
set_option linter.unusedVariables false
set_option maxRecDepth 100000
theorem loop_eq (s : ByteArray) : ∀ (k i : Nat) (r : List UInt8), k = s.size - i → ByteArray.toList.loop s i r = r.reverse ++ s.data.toList.drop i
  | 0, i, r, h => by
    rw [ByteArray.toList.loop.eq_1, if_neg (by omega), List.drop_of_length_le (by have : s.data.toList.length = s.size := rfl; omega), List.append_nil]
  | k + 1, i, r, h => by
    have hi : i < s.data.toList.length := by show i < s.size; omega
    rw [ByteArray.toList.loop.eq_1, if_pos (by omega), loop_eq s k (i + 1) _ (by omega), List.reverse_cons, List.append_assoc, List.drop_eq_getElem_cons hi]
    congr 2
    show s.data[i]! :: _ = _
    have hi2 : i < s.data.size := hi
    simp only [Array.getElem_toList, List.cons.injEq]
    exact ⟨getElem!_pos s.data i hi2, rfl⟩
theorem toList_eq (s : ByteArray) : s.toList = s.data.toList := by
  rw [ByteArray.toList, loop_eq s (s.size - 0) 0 [] rfl]; rfl
theorem str_ne {s t : ByteArray} (h : ¬ s = t) : (s.toList == t.toList) = false := by
  refine beq_eq_false_iff_ne.2 (fun e => h ?_)
  rw [toList_eq, toList_eq] at e
  have h2 : s.data = t.data := Array.toList_inj.1 e
  cases s; cases t
  simp only at h2
  rw [h2]
/-- What is known of smaller objects. -/
def SameIH (N : Nat) : Prop := ∀ (x : Ob), x.sz ≤ N → ∀ (y : Ob) (S : Nat → Prop) (w : World) (c0 c1 c2 c3 c4 e0 e1 e2 e3 e4 : Value), ObR w S x c0 c1 c2 c3 c4 → ObR w S y e0 e1 e2 e3 e4 → (∀ g, S g → g < w.heap.size) →
    Calls Tryd.prog 8 #[.agg #[c0, c1, c2, c3, c4], .agg #[e0, e1, e2, e3, e4]] w fun r w' => r = .returned (.bool (sameO x y)) ∧ Below w.heap.size w w'
theorem Below.drewS {B : Nat} {a w : World} (h : Below B a w) (q : Nat) : Below B a (w.drewN q) := ⟨h.os, h.tape, h.output, h.size, h.block⟩
set_option maxHeartbeats 4000000 in
theorem same_num (N : Nat) (hIH : SameIH N) (k n : Int) (b : List Int) (l : Obs) (d : Ens) (hN : (Ob.mk k n b l d).sz ≤ N + 1) (k2 n2 : Int) (b2 : List Int) (l2 : Obs) (d2 : Ens) (hkk : k = k2) (hc : k = 1 ∨ k = 2 ∨ k = 3 ∨ k = 9) (S : Nat → Prop) (w : World) (c0 c1 c2 c3 c4 e0 e1 e2 e3 e4 : Value) (hx : ObR w S (.mk k n b l d) c0 c1 c2 c3 c4) (hy : ObR w S (.mk k2 n2 b2 l2 d2) e0 e1 e2 e3 e4) (hS : ∀ g, S g → g < w.heap.size) :
    Calls Tryd.prog 8 #[.agg #[c0, c1, c2, c3, c4], .agg #[e0, e1, e2, e3, e4]] w fun r w' => r = .returned (.bool (sameO (.mk k n b l d) (.mk k2 n2 b2 l2 d2))) ∧ Below w.heap.size w w' := by
  have IH := Lib.hid hIH
  clear hIH
  unfold ObR at hx hy
  obtain ⟨rfl, rfl, hk, hn, ⟨AB, mb, cb, rfl, hB⟩, ⟨AL, cL, rfl, hlc, hl⟩, ⟨AD, cD, rfl, hdc, hd⟩⟩ := hx
  obtain ⟨rfl, rfl, hk2, hn2, ⟨AB2, mb2, cb2, rfl, hB2⟩, ⟨AL2, cL2, rfl, hlc2, hl2⟩, ⟨AD2, cD2, rfl, hdc2, hd2⟩⟩ := hy
  rw [Ob.sz] at hN
  rw [sameO]
  obtain ⟨LL, hLL⟩ : ∃ LL, l.len = LL := ⟨_, rfl⟩
  obtain ⟨DD, hDD⟩ : ∃ DD, d.len = DD := ⟨_, rfl⟩
  obtain ⟨LL2, hLL2⟩ : ∃ LL, l2.len = LL := ⟨_, rfl⟩
  obtain ⟨DD2, hDD2⟩ : ∃ DD, d2.len = DD := ⟨_, rfl⟩
  rw [hLL] at hlc ⊢
  rw [hDD] at hdc ⊢
  rw [hLL2] at hlc2 ⊢
  rw [hDD2] at hdc2 ⊢
  have hb1 := (Below.refl w.heap.size w).alloc (Nat.le_refl _) (.cells #[.int .i64 k, .int .i64 n, .slice AB mb cb, .slice AL LL cL, .slice AD DD cD] 26)
  have hnew := heap_alloc_new w (.cells #[.int .i64 k, .int .i64 n, .slice AB mb cb, .slice AL LL cL, .slice AD DD cD] 26)
  obtain ⟨W0, hW0⟩ : ∃ W1, w.alloc (.cells #[.int .i64 k, .int .i64 n, .slice AB mb cb, .slice AL LL cL, .slice AD DD cD] 26) = W1 := ⟨_, rfl⟩
  have hs0 : W0.heap.size = w.heap.size + 1 := by rw [← hW0]; simp
  rw [hW0] at hb1 hnew
  have hb2 := (Below.refl W0.heap.size W0).alloc (Nat.le_refl _) (.cells #[.int .i64 k2, .int .i64 n2, .slice AB2 mb2 cb2, .slice AL2 LL2 cL2, .slice AD2 DD2 cD2] 26)
  have hnew2 := heap_alloc_new W0 (.cells #[.int .i64 k2, .int .i64 n2, .slice AB2 mb2 cb2, .slice AL2 LL2 cL2, .slice AD2 DD2 cD2] 26)
  obtain ⟨W1, hW1⟩ : ∃ W1, W0.alloc (.cells #[.int .i64 k2, .int .i64 n2, .slice AB2 mb2 cb2, .slice AL2 LL2 cL2, .slice AD2 DD2 cD2] 26) = W1 := ⟨_, rfl⟩
  have hs1 : W1.heap.size = w.heap.size + 2 := by rw [← hW1]; simp; omega
  rw [hW1] at hb2 hnew2
  rw [hs0] at hnew2
  have hnew1 := (hb2.block w.heap.size (by omega)).trans hnew
  have HCHAIN : Hid (∀ wr, Below W1.heap.size W1 wr → Below w.heap.size w wr ∧ wr.heap[w.heap.size]? = some (.cells #[.int .i64 k, .int .i64 n, .slice AB mb cb, .slice AL LL cL, .slice AD DD cD] 26 (0, 0)) ∧ wr.heap[w.heap.size + 1]? = some (.cells #[.int .i64 k2, .int .i64 n2, .slice AB2 mb2 cb2, .slice AL2 LL2 cL2, .slice AD2 DD2 cD2] 26 (0, 0))) := Lib.hid fun wr h => ⟨(hb1.trans (hb2.mono (by omega))).trans (h.mono (by omega)), (h.block w.heap.size (by omega)).trans hnew1, (h.block (w.heap.size + 1) (by omega)).trans hnew2⟩
  have m0 : W1.cell? ⟨w.heap.size, 0, none⟩ = some (.int .i64 k) := cell_of_row _ _ 0 _ _ (0, 0) hnew1
  have q0 : W1.cell? ⟨w.heap.size + 1, 0, none⟩ = some (.int .i64 k2) := cell_of_row _ _ 0 _ _ (0, 0) hnew2
  have m1 : W1.cell? ⟨w.heap.size, 1, none⟩ = some (.int .i64 n) := cell_of_row _ _ 1 _ _ (0, 0) hnew1
  have q1 : W1.cell? ⟨w.heap.size + 1, 1, none⟩ = some (.int .i64 n2) := cell_of_row _ _ 1 _ _ (0, 0) hnew2
  have m2 : W1.cell? ⟨w.heap.size, 2, none⟩ = some (.slice AB mb cb) := cell_of_row _ _ 2 _ _ (0, 0) hnew1
  have q2 : W1.cell? ⟨w.heap.size + 1, 2, none⟩ = some (.slice AB2 mb2 cb2) := cell_of_row _ _ 2 _ _ (0, 0) hnew2
  have m3 : W1.cell? ⟨w.heap.size, 3, none⟩ = some (.slice AL LL cL) := cell_of_row _ _ 3 _ _ (0, 0) hnew1
  have q3 : W1.cell? ⟨w.heap.size + 1, 3, none⟩ = some (.slice AL2 LL2 cL2) := cell_of_row _ _ 3 _ _ (0, 0) hnew2
  have m4 : W1.cell? ⟨w.heap.size, 4, none⟩ = some (.slice AD DD cD) := cell_of_row _ _ 4 _ _ (0, 0) hnew1
  have q4 : W1.cell? ⟨w.heap.size + 1, 4, none⟩ = some (.slice AD2 DD2 cD2) := cell_of_row _ _ 4 _ _ (0, 0) hnew2
  have HS1 := Lib.hid hs1
  have HL := Lib.hid hl
  have HD := Lib.hid hd
  have HL2 := Lib.hid hl2
  have HD2 := Lib.hid hd2
  have HB := Lib.hid hB
  have HB2 := Lib.hid hB2
  have HS := Lib.hid hS
  have HLL := Lib.hid hLL
  have HDD := Lib.hid hDD
  have HLL2 := Lib.hid hLL2
  have HDD2 := Lib.hid hDD2
  have HN := Lib.hid hN
  have HQ : Hid (Below W1.heap.size W1 W1) := Lib.hid (Below.refl _ _)
  clear hl hd hl2 hd2 hS hB hB2 hnew hnew1 hnew2 hb1 hb2 hs1 hLL hDD hLL2 hDD2 hN
  subst hkk
  rw [if_pos rfl]
  have c1 := hc
  clear hc
  rw [if_pos c1]
  clear m2 q2 m3 q3 m4 q4
  rcases c1 with rfl | rfl | rfl | rfl <;>
  · go_enter Tryd.func8, Tryd.ntmps8
    go_wp2_with fail
    go_ret
    exact ⟨by congr 2, (HCHAIN.out _ HQ.out).1⟩
set_option maxHeartbeats 4000000 in
theorem same_byt (N : Nat) (hIH : SameIH N) (k n : Int) (b : List Int) (l : Obs) (d : Ens) (hN : (Ob.mk k n b l d).sz ≤ N + 1) (k2 n2 : Int) (b2 : List Int) (l2 : Obs) (d2 : Ens) (hkk : k = k2) (hc : k = 4 ∨ k = 5) (S : Nat → Prop) (w : World) (c0 c1 c2 c3 c4 e0 e1 e2 e3 e4 : Value) (hx : ObR w S (.mk k n b l d) c0 c1 c2 c3 c4) (hy : ObR w S (.mk k2 n2 b2 l2 d2) e0 e1 e2 e3 e4) (hS : ∀ g, S g → g < w.heap.size) :
    Calls Tryd.prog 8 #[.agg #[c0, c1, c2, c3, c4], .agg #[e0, e1, e2, e3, e4]] w fun r w' => r = .returned (.bool (sameO (.mk k n b l d) (.mk k2 n2 b2 l2 d2))) ∧ Below w.heap.size w w' := by
  have IH := Lib.hid hIH
  clear hIH
  unfold ObR at hx hy
  obtain ⟨rfl, rfl, hk, hn, ⟨AB, mb, cb, rfl, hB⟩, ⟨AL, cL, rfl, hlc, hl⟩, ⟨AD, cD, rfl, hdc, hd⟩⟩ := hx
  obtain ⟨rfl, rfl, hk2, hn2, ⟨AB2, mb2, cb2, rfl, hB2⟩, ⟨AL2, cL2, rfl, hlc2, hl2⟩, ⟨AD2, cD2, rfl, hdc2, hd2⟩⟩ := hy
  rw [Ob.sz] at hN
  rw [sameO]
  obtain ⟨LL, hLL⟩ : ∃ LL, l.len = LL := ⟨_, rfl⟩
  obtain ⟨DD, hDD⟩ : ∃ DD, d.len = DD := ⟨_, rfl⟩
  obtain ⟨LL2, hLL2⟩ : ∃ LL, l2.len = LL := ⟨_, rfl⟩
  obtain ⟨DD2, hDD2⟩ : ∃ DD, d2.len = DD := ⟨_, rfl⟩
  rw [hLL] at hlc ⊢
  rw [hDD] at hdc ⊢
  rw [hLL2] at hlc2 ⊢
  rw [hDD2] at hdc2 ⊢
  have hb1 := (Below.refl w.heap.size w).alloc (Nat.le_refl _) (.cells #[.int .i64 k, .int .i64 n, .slice AB mb cb, .slice AL LL cL, .slice AD DD cD] 26)
  have hnew := heap_alloc_new w (.cells #[.int .i64 k, .int .i64 n, .slice AB mb cb, .slice AL LL cL, .slice AD DD cD] 26)
  obtain ⟨W0, hW0⟩ : ∃ W1, w.alloc (.cells #[.int .i64 k, .int .i64 n, .slice AB mb cb, .slice AL LL cL, .slice AD DD cD] 26) = W1 := ⟨_, rfl⟩
  have hs0 : W0.heap.size = w.heap.size + 1 := by rw [← hW0]; simp
  rw [hW0] at hb1 hnew
  have hb2 := (Below.refl W0.heap.size W0).alloc (Nat.le_refl _) (.cells #[.int .i64 k2, .int .i64 n2, .slice AB2 mb2 cb2, .slice AL2 LL2 cL2, .slice AD2 DD2 cD2] 26)
  have hnew2 := heap_alloc_new W0 (.cells #[.int .i64 k2, .int .i64 n2, .slice AB2 mb2 cb2, .slice AL2 LL2 cL2, .slice AD2 DD2 cD2] 26)
  obtain ⟨W1, hW1⟩ : ∃ W1, W0.alloc (.cells #[.int .i64 k2, .int .i64 n2, .slice AB2 mb2 cb2, .slice AL2 LL2 cL2, .slice AD2 DD2 cD2] 26) = W1 := ⟨_, rfl⟩
  have hs1 : W1.heap.size = w.heap.size + 2 := by rw [← hW1]; simp; omega
  rw [hW1] at hb2 hnew2
  rw [hs0] at hnew2
  have hnew1 := (hb2.block w.heap.size (by omega)).trans hnew
  have HCHAIN : Hid (∀ wr, Below W1.heap.size W1 wr → Below w.heap.size w wr ∧ wr.heap[w.heap.size]? = some (.cells #[.int .i64 k, .int .i64 n, .slice AB mb cb, .slice AL LL cL, .slice AD DD cD] 26 (0, 0)) ∧ wr.heap[w.heap.size + 1]? = some (.cells #[.int .i64 k2, .int .i64 n2, .slice AB2 mb2 cb2, .slice AL2 LL2 cL2, .slice AD2 DD2 cD2] 26 (0, 0))) := Lib.hid fun wr h => ⟨(hb1.trans (hb2.mono (by omega))).trans (h.mono (by omega)), (h.block w.heap.size (by omega)).trans hnew1, (h.block (w.heap.size + 1) (by omega)).trans hnew2⟩
  have m0 : W1.cell? ⟨w.heap.size, 0, none⟩ = some (.int .i64 k) := cell_of_row _ _ 0 _ _ (0, 0) hnew1
  have q0 : W1.cell? ⟨w.heap.size + 1, 0, none⟩ = some (.int .i64 k2) := cell_of_row _ _ 0 _ _ (0, 0) hnew2
  have m1 : W1.cell? ⟨w.heap.size, 1, none⟩ = some (.int .i64 n) := cell_of_row _ _ 1 _ _ (0, 0) hnew1
  have q1 : W1.cell? ⟨w.heap.size + 1, 1, none⟩ = some (.int .i64 n2) := cell_of_row _ _ 1 _ _ (0, 0) hnew2
  have m2 : W1.cell? ⟨w.heap.size, 2, none⟩ = some (.slice AB mb cb) := cell_of_row _ _ 2 _ _ (0, 0) hnew1
  have q2 : W1.cell? ⟨w.heap.size + 1, 2, none⟩ = some (.slice AB2 mb2 cb2) := cell_of_row _ _ 2 _ _ (0, 0) hnew2
  have m3 : W1.cell? ⟨w.heap.size, 3, none⟩ = some (.slice AL LL cL) := cell_of_row _ _ 3 _ _ (0, 0) hnew1
  have q3 : W1.cell? ⟨w.heap.size + 1, 3, none⟩ = some (.slice AL2 LL2 cL2) := cell_of_row _ _ 3 _ _ (0, 0) hnew2
  have m4 : W1.cell? ⟨w.heap.size, 4, none⟩ = some (.slice AD DD cD) := cell_of_row _ _ 4 _ _ (0, 0) hnew1
  have q4 : W1.cell? ⟨w.heap.size + 1, 4, none⟩ = some (.slice AD2 DD2 cD2) := cell_of_row _ _ 4 _ _ (0, 0) hnew2
  have HS1 := Lib.hid hs1
  have HL := Lib.hid hl
  have HD := Lib.hid hd
  have HL2 := Lib.hid hl2
  have HD2 := Lib.hid hd2
  have HB := Lib.hid hB
  have HB2 := Lib.hid hB2
  have HS := Lib.hid hS
  have HLL := Lib.hid hLL
  have HDD := Lib.hid hDD
  have HLL2 := Lib.hid hLL2
  have HDD2 := Lib.hid hDD2
  have HN := Lib.hid hN
  have HQ : Hid (Below W1.heap.size W1 W1) := Lib.hid (Below.refl _ _)
  clear hl hd hl2 hd2 hS hB hB2 hnew hnew1 hnew2 hb1 hb2 hs1 hLL hDD hLL2 hDD2 hN
  subst hkk
  rw [if_pos rfl]
  have c2 := hc
  clear hc
  have c1 : ¬ (k = 1 ∨ k = 2 ∨ k = 3 ∨ k = 9) := by omega
  rw [if_neg c1]
  have k1 : ¬ k = 1 := by omega
  have k2 : ¬ k = 2 := by omega
  have k3 : ¬ k = 3 := by omega
  have k9 : ¬ k = 9 := by omega
  clear c1 m1 q1
  rw [if_pos c2]
  have hww := (HCHAIN.out _ HQ.out).1
  have HSC := Lib.hid (sameC S S W1 AB AB2 mb cb mb2 cb2 b b2 (HB.out.keep (fun g hg => hww.block g (HS.out g hg)) (fun _ h => h)) (HB2.out.keep (fun g hg => hww.block g (HS.out g hg)) (fun _ h => h)))
  clear m3 q3 m4 q4 hww
  rcases c2 with rfl | rfl <;>
  · clear k1 k2 k3 k9
    go_enter Tryd.func8, Tryd.ntmps8
    go_wp2_with (go_at_call 7; refine HSC.out.mono ?_; (rintro r w3 ⟨rfl, q, rfl⟩))
    go_ret
    exact ⟨rfl, (HCHAIN.out _ (Below.drewS HQ.out q)).1⟩
set_option maxHeartbeats 4000000 in
theorem same_arr (N : Nat) (hIH : SameIH N) (k n : Int) (b : List Int) (l : Obs) (d : Ens) (hN : (Ob.mk k n b l d).sz ≤ N + 1) (k2 n2 : Int) (b2 : List Int) (l2 : Obs) (d2 : Ens) (hkk : k = k2) (hc : k = 6) (S : Nat → Prop) (w : World) (c0 c1 c2 c3 c4 e0 e1 e2 e3 e4 : Value) (hx : ObR w S (.mk k n b l d) c0 c1 c2 c3 c4) (hy : ObR w S (.mk k2 n2 b2 l2 d2) e0 e1 e2 e3 e4) (hS : ∀ g, S g → g < w.heap.size) :
    Calls Tryd.prog 8 #[.agg #[c0, c1, c2, c3, c4], .agg #[e0, e1, e2, e3, e4]] w fun r w' => r = .returned (.bool (sameO (.mk k n b l d) (.mk k2 n2 b2 l2 d2))) ∧ Below w.heap.size w w' := by
  have IH := Lib.hid hIH
  clear hIH
  unfold ObR at hx hy
  obtain ⟨rfl, rfl, hk, hn, ⟨AB, mb, cb, rfl, hB⟩, ⟨AL, cL, rfl, hlc, hl⟩, ⟨AD, cD, rfl, hdc, hd⟩⟩ := hx
  obtain ⟨rfl, rfl, hk2, hn2, ⟨AB2, mb2, cb2, rfl, hB2⟩, ⟨AL2, cL2, rfl, hlc2, hl2⟩, ⟨AD2, cD2, rfl, hdc2, hd2⟩⟩ := hy
  rw [Ob.sz] at hN
  rw [sameO]
  obtain ⟨LL, hLL⟩ : ∃ LL, l.len = LL := ⟨_, rfl⟩
  obtain ⟨DD, hDD⟩ : ∃ DD, d.len = DD := ⟨_, rfl⟩
  obtain ⟨LL2, hLL2⟩ : ∃ LL, l2.len = LL := ⟨_, rfl⟩
  obtain ⟨DD2, hDD2⟩ : ∃ DD, d2.len = DD := ⟨_, rfl⟩
  rw [hLL] at hlc ⊢
  rw [hDD] at hdc ⊢
  rw [hLL2] at hlc2 ⊢
  rw [hDD2] at hdc2 ⊢
  have hb1 := (Below.refl w.heap.size w).alloc (Nat.le_refl _) (.cells #[.int .i64 k, .int .i64 n, .slice AB mb cb, .slice AL LL cL, .slice AD DD cD] 26)
  have hnew := heap_alloc_new w (.cells #[.int .i64 k, .int .i64 n, .slice AB mb cb, .slice AL LL cL, .slice AD DD cD] 26)
  obtain ⟨W0, hW0⟩ : ∃ W1, w.alloc (.cells #[.int .i64 k, .int .i64 n, .slice AB mb cb, .slice AL LL cL, .slice AD DD cD] 26) = W1 := ⟨_, rfl⟩
  have hs0 : W0.heap.size = w.heap.size + 1 := by rw [← hW0]; simp
  rw [hW0] at hb1 hnew
  have hb2 := (Below.refl W0.heap.size W0).alloc (Nat.le_refl _) (.cells #[.int .i64 k2, .int .i64 n2, .slice AB2 mb2 cb2, .slice AL2 LL2 cL2, .slice AD2 DD2 cD2] 26)
  have hnew2 := heap_alloc_new W0 (.cells #[.int .i64 k2, .int .i64 n2, .slice AB2 mb2 cb2, .slice AL2 LL2 cL2, .slice AD2 DD2 cD2] 26)
  obtain ⟨W1, hW1⟩ : ∃ W1, W0.alloc (.cells #[.int .i64 k2, .int .i64 n2, .slice AB2 mb2 cb2, .slice AL2 LL2 cL2, .slice AD2 DD2 cD2] 26) = W1 := ⟨_, rfl⟩
  have hs1 : W1.heap.size = w.heap.size + 2 := by rw [← hW1]; simp; omega
  rw [hW1] at hb2 hnew2
  rw [hs0] at hnew2
  have hnew1 := (hb2.block w.heap.size (by omega)).trans hnew
  have HCHAIN : Hid (∀ wr, Below W1.heap.size W1 wr → Below w.heap.size w wr ∧ wr.heap[w.heap.size]? = some (.cells #[.int .i64 k, .int .i64 n, .slice AB mb cb, .slice AL LL cL, .slice AD DD cD] 26 (0, 0)) ∧ wr.heap[w.heap.size + 1]? = some (.cells #[.int .i64 k2, .int .i64 n2, .slice AB2 mb2 cb2, .slice AL2 LL2 cL2, .slice AD2 DD2 cD2] 26 (0, 0))) := Lib.hid fun wr h => ⟨(hb1.trans (hb2.mono (by omega))).trans (h.mono (by omega)), (h.block w.heap.size (by omega)).trans hnew1, (h.block (w.heap.size + 1) (by omega)).trans hnew2⟩
  have m0 : W1.cell? ⟨w.heap.size, 0, none⟩ = some (.int .i64 k) := cell_of_row _ _ 0 _ _ (0, 0) hnew1
  have q0 : W1.cell? ⟨w.heap.size + 1, 0, none⟩ = some (.int .i64 k2) := cell_of_row _ _ 0 _ _ (0, 0) hnew2
  have m1 : W1.cell? ⟨w.heap.size, 1, none⟩ = some (.int .i64 n) := cell_of_row _ _ 1 _ _ (0, 0) hnew1
  have q1 : W1.cell? ⟨w.heap.size + 1, 1, none⟩ = some (.int .i64 n2) := cell_of_row _ _ 1 _ _ (0, 0) hnew2
  have m2 : W1.cell? ⟨w.heap.size, 2, none⟩ = some (.slice AB mb cb) := cell_of_row _ _ 2 _ _ (0, 0) hnew1
  have q2 : W1.cell? ⟨w.heap.size + 1, 2, none⟩ = some (.slice AB2 mb2 cb2) := cell_of_row _ _ 2 _ _ (0, 0) hnew2
  have m3 : W1.cell? ⟨w.heap.size, 3, none⟩ = some (.slice AL LL cL) := cell_of_row _ _ 3 _ _ (0, 0) hnew1
  have q3 : W1.cell? ⟨w.heap.size + 1, 3, none⟩ = some (.slice AL2 LL2 cL2) := cell_of_row _ _ 3 _ _ (0, 0) hnew2
  have m4 : W1.cell? ⟨w.heap.size, 4, none⟩ = some (.slice AD DD cD) := cell_of_row _ _ 4 _ _ (0, 0) hnew1
  have q4 : W1.cell? ⟨w.heap.size + 1, 4, none⟩ = some (.slice AD2 DD2 cD2) := cell_of_row _ _ 4 _ _ (0, 0) hnew2
  have HS1 := Lib.hid hs1
  have HL := Lib.hid hl
  have HD := Lib.hid hd
  have HL2 := Lib.hid hl2
  have HD2 := Lib.hid hd2
  have HB := Lib.hid hB
  have HB2 := Lib.hid hB2
  have HS := Lib.hid hS
  have HLL := Lib.hid hLL
  have HDD := Lib.hid hDD
  have HLL2 := Lib.hid hLL2
  have HDD2 := Lib.hid hDD2
  have HN := Lib.hid hN
  have HQ : Hid (Below W1.heap.size W1 W1) := Lib.hid (Below.refl _ _)
  clear hl hd hl2 hd2 hS hB hB2 hnew hnew1 hnew2 hb1 hb2 hs1 hLL hDD hLL2 hDD2 hN
  subst hkk
  rw [if_pos rfl]
  have c3 := hc
  clear hc
  rw [if_neg (show ¬ (k = 1 ∨ k = 2 ∨ k = 3 ∨ k = 9) by omega), if_neg (show ¬ (k = 4 ∨ k = 5) by omega)]
  have k1 : ¬ k = 1 := by omega
  have k2 : ¬ k = 2 := by omega
  have k3 : ¬ k = 3 := by omega
  have k9 : ¬ k = 9 := by omega
  have k4 : ¬ k = 4 := by omega
  have k5 : ¬ k = 5 := by omega
  clear m1 q1
  rw [if_pos c3]
  subst c3
  clear k1 k2 k3 k4 k5 k9 m4 q4 m2 q2
  by_cases hlen : LL = LL2
  · subst hlen
    obtain ⟨R, hR⟩ : ∃ R, sameL l l2 = R := ⟨_, rfl⟩
    rw [hR]
    have HR := Lib.hid hR
    clear hR
    go_enter Tryd.func8, Tryd.ntmps8
    go_wp2_with fail
    clear m0 q0 m3 q3
    go_loopw [5] (fun iv wr => ∃ i : Nat, i ≤ LL ∧ iv = .int .i64 i ∧ Hid (sameL (l.dropN i) (l2.dropN i) = R) ∧ Hid (Below W1.heap.size W1 wr)) (fun iv _ => LL - (intOf iv).toNat)
    case atStart => exact ⟨0, Nat.zero_le _, rfl, Lib.hid (by rw [← HR.out]; cases l <;> cases l2 <;> rfl), HQ⟩
    case round =>
      obtain ⟨i, hi, rfl, HM, HBE⟩ := hrel
      obtain ⟨hww, hbox, hbox2⟩ := HCHAIN.out wr HBE.out
      have m3 : wr.cell? ⟨w.heap.size, 3, none⟩ = some (.slice AL LL cL) := cell_of_row _ _ 3 _ _ (0, 0) hbox
      have q3 : wr.cell? ⟨w.heap.size + 1, 3, none⟩ = some (.slice AL2 LL cL2) := cell_of_row _ _ 3 _ _ (0, 0) hbox2
      by_cases hlt : i < LL
      · have hgt := l.get_some i (by rw [HLL.out]; exact hlt)
        obtain ⟨y, hy⟩ := hgt
        have hgt2 := l2.get_some i (by rw [HLL2.out]; exact hlt)
        obtain ⟨y2, hy2⟩ := hgt2
        obtain ⟨g, o, rfl, hg, hobs⟩ := HL.out (by rw [HLL.out]; omega)
        obtain ⟨g2, o2, rfl, hg2, hobs2⟩ := HL2.out (by rw [HLL2.out]; omega)
        have hb2 := ObsR.keep (S' := S) (fun b hb => hww.block b (HS.out b hb)) (fun b hb => hb) l g o hg hg hobs
        have hb3 := ObsR.keep (S' := S) (fun b hb => hww.block b (HS.out b hb)) (fun b hb => hb) l2 g2 o2 hg2 hg2 hobs2
        obtain ⟨d0, d1, d2', d3, d4, k0, k1, k2, k3, k4, hyr⟩ := hb2.get l g o i y hy
        obtain ⟨f0, f1, f2, f3, f4, j0, j1, j2, j3, j4, hyr2⟩ := hb3.get l2 g2 o2 i y2 hy2
        have hysz := l.get_sz i y hy
        have HI : ∀ q, Hid (Calls Tryd.prog 8 #[.agg #[d0, d1, d2', d3, d4], .agg #[f0, f1, f2, f3, f4]] (wr.drewN q) fun r w' => r = .returned (.bool (sameO y y2)) ∧ Below wr.heap.size wr w') := fun q => Lib.hid ((IH.out y (by have := HN.out; omega) y2 S (wr.drewN q) d0 d1 d2' d3 d4 f0 f1 f2 f3 f4 (ObR.keep (w := wr) (w' := wr.drewN q) (S := S) (S' := S) (fun _ _ => rfl) (fun _ h => h) y hyr) (ObR.keep (w := wr) (w' := wr.drewN q) (S := S) (S' := S) (fun _ _ => rfl) (fun _ h => h) y2 hyr2) (fun b hb => Nat.lt_of_lt_of_le (HS.out b hb) hww.size)).mono (fun r w' h => ⟨h.1, (Below.drewS (Below.refl _ wr) q).trans h.2⟩))
        have hm := HM.out
        rw [l.drop_get i y hy, l2.drop_get i y2 hy2, sameL] at hm
        obtain ⟨RY, hRY⟩ : ∃ RY, sameO y y2 = RY := ⟨_, rfl⟩
        rw [hRY] at hm
        have HI2 : ∀ q, Hid (Calls Tryd.prog 8 #[.agg #[d0, d1, d2', d3, d4], .agg #[f0, f1, f2, f3, f4]] (wr.drewN q) fun r w' => r = .returned (.bool RY) ∧ Below wr.heap.size wr w') := by rw [← hRY]; exact HI
        have hli : (i : Int) < LL := by omega
        clear hbox hbox2 hy hy2 hobs hobs2 hb2 hb3 hyr hyr2 hysz hRY hww hg hg2 HI
        cases RY
        · rw [if_neg (by decide)] at hm
          subst hm
          go_wp2_with fail
          go_still_tail 10, (by kernel_rfl)
          change wpList _ _ _ _ _ (wr.drewN 1)
          go_wp2_with (go_at_call 8; refine (HI2 1).out.mono ?_; (rintro r w3 ⟨rfl, hb3⟩); have HB3 := Lib.hid (HBE.out.trans (hb3.mono HBE.out.size)); clear hb3)
          go_ret
          exact ⟨rfl, (HCHAIN.out _ HB3.out).1⟩
        · rw [if_pos rfl] at hm
          have hM2 := Lib.hid hm
          clear hm
          go_wp2_with fail
          go_still_tail 10, (by kernel_rfl)
          change wpList _ _ _ _ _ (wr.drewN 1)
          go_wp2_with (go_at_call 8; refine (HI2 1).out.mono ?_; (rintro r w3 ⟨rfl, hb3⟩); have HB3 := Lib.hid (HBE.out.trans (hb3.mono HBE.out.size)); clear hb3)
          go_roundw
          case rel => exact ⟨i + 1, by omega, by go_num, hM2, HB3⟩
          case measure => simp [intOf]; omega
      · obtain rfl : LL = i := by omega
        have hm := HM.out
        have he := Obs.drop_end l
        have he2 := Obs.drop_end l2
        rw [HLL.out] at he
        rw [HLL2.out] at he2
        rw [he, he2, sameL] at hm
        subst hm
        clear he he2 hbox hbox2
        go_wp2_with fail
        go_ret
        exact ⟨rfl, (HCHAIN.out _ HBE.out).1⟩
  · rw [sameL_len l l2 (by rw [HLL.out, HLL2.out]; exact hlen)]
    have i1' : ¬ (LL : Int) = LL2 := by omega
    have i1 : decide (LL = LL2) = false := decide_eq_false hlen
    go_enter Tryd.func8, Tryd.ntmps8
    go_wp2_with fail
    go_ret
    exact ⟨rfl, (HCHAIN.out _ HQ.out).1⟩
end
end Go.Proofs.YtliieeagbpmcgaaDoor
