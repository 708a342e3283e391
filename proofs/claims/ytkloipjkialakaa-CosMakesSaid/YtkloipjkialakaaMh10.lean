/- Chapter 10: the document's May. -/
import Derived.Test.YtkloipjkialakaaMb10
import Derived.Test.YtkloipjkialakaaMc10
import Derived.Test.YtkloipjkialakaaMd10
import Derived.Test.YtkloipjkialakaaMf10
import Derived.Test.YtkloipjkialakaaMg10
namespace Go.Proofs.Ytkloipjkialakaa
open Go.RowKit
set_option linter.unusedVariables false
set_option maxRecDepth 100000

theorem mayC : ∀ N, MayC N
  | 0 => fun x hN => by
    obtain ⟨k, n, b, l, d⟩ := x
    rw [Ob.sz] at hN; omega
  | N + 1 => fun x hN S w c0 c1 c2 c3 c4 dp hx hS hdp => by
    obtain ⟨k, n, b, l, d⟩ := x
    by_cases h0 : k = 0
    · exact may0 n b l d k h0 (N + 1) hN S w c0 c1 c2 c3 c4 dp hx hS hdp
    by_cases h1 : k = 1
    · exact may1 n b l d k h1 (N + 1) hN S w c0 c1 c2 c3 c4 dp hx hS hdp
    by_cases h2 : k = 2
    · exact may2 n b l d k h2 (N + 1) hN S w c0 c1 c2 c3 c4 dp hx hS hdp
    by_cases h3 : k = 3
    · exact may3 n b l d k h3 (N + 1) hN S w c0 c1 c2 c3 c4 dp hx hS hdp
    by_cases h4 : k = 4
    · exact may4 n b l d k h4 (N + 1) hN S w c0 c1 c2 c3 c4 dp hx hS hdp
    by_cases h5 : k = 5
    · exact may5 n b l d k h5 (N + 1) hN S w c0 c1 c2 c3 c4 dp hx hS hdp
    by_cases h9 : k = 9
    · exact may9 n b l d k h9 (N + 1) hN S w c0 c1 c2 c3 c4 dp hx hS hdp
    by_cases h6 : k = 6
    · exact may6 n b l d k h6 N (mayC N) hN S w c0 c1 c2 c3 c4 dp hx hS hdp
    by_cases h7 : k = 7
    · exact may7 n b l d k h7 N (mayC N) hN S w c0 c1 c2 c3 c4 dp hx hS hdp
    by_cases h8 : k = 8
    · exact may8 n b l d k h8 N (mayC N) hN S w c0 c1 c2 c3 c4 dp hx hS hdp
    exact mayX n b l d k ⟨h0, h1, h2, h3, h4, h5, h6, h7, h8, h9⟩ (N + 1) hN S w c0 c1 c2 c3 c4 dp hx hS hdp
theorem mayTopC (x : Ob) (S : Nat → Prop) (w : World) (c0 c1 c2 c3 c4 : Value) (hx : ObR w S x c0 c1 c2 c3 c4) (hS : ∀ g, S g → g < w.heap.size) :
    Calls Try.prog 27 #[.agg #[c0, c1, c2, c3, c4]] w fun r w' => r = .returned (.bool (mayO x 28)) ∧ Below w.heap.size w w' := by
  obtain ⟨k, n, b, l, d⟩ := x
  have HC := Lib.hid (fun W (hW : Below w.heap.size w W) => mayC _ (.mk k n b l d) (Nat.le_refl _) S W c0 c1 c2 c3 c4 28 (ObR.keep (fun g hg => hW.block g (hS g hg)) (fun _ h => h) _ hx) (fun g hg => Nat.lt_of_lt_of_le (hS g hg) hW.size) (by omega))
  unfold ObR at hx
  obtain ⟨rfl, rfl, -, -, ⟨A2, m2, d2, rfl, -⟩, ⟨A3, d3, rfl, -, -⟩, ⟨A4, d4, rfl, -, -⟩⟩ := hx
  obtain ⟨R, hR⟩ : ∃ R, mayO (.mk k n b l d) 28 = R := ⟨_, rfl⟩
  rw [hR] at HC ⊢
  clear hR
  obtain ⟨LL, hLL⟩ : ∃ LL, l.len = LL := ⟨_, rfl⟩
  obtain ⟨DD, hDD⟩ : ∃ DD, d.len = DD := ⟨_, rfl⟩
  rw [hLL, hDD] at HC ⊢
  have hb1 := (Below.refl w.heap.size w).alloc (Nat.le_refl _) (.cells #[.int .i64 k, .int .i64 n, .slice A2 m2 d2, .slice A3 LL d3, .slice A4 DD d4] 27)
  have hnew := heap_alloc_new w (.cells #[.int .i64 k, .int .i64 n, .slice A2 m2 d2, .slice A3 LL d3, .slice A4 DD d4] 27)
  obtain ⟨W1, hW1⟩ : ∃ W1, w.alloc (.cells #[.int .i64 k, .int .i64 n, .slice A2 m2 d2, .slice A3 LL d3, .slice A4 DD d4] 27) = W1 := ⟨_, rfl⟩
  rw [hW1] at hb1 hnew
  have m0 : W1.cell? ⟨w.heap.size, 0, none⟩ = some (.int .i64 k) := cell_of_row _ _ 0 _ _ (0, 0) hnew
  have m1 : W1.cell? ⟨w.heap.size, 1, none⟩ = some (.int .i64 n) := cell_of_row _ _ 1 _ _ (0, 0) hnew
  have m2 : W1.cell? ⟨w.heap.size, 2, none⟩ = some (.slice A2 m2 d2) := cell_of_row _ _ 2 _ _ (0, 0) hnew
  have m3 : W1.cell? ⟨w.heap.size, 3, none⟩ = some (.slice A3 LL d3) := cell_of_row _ _ 3 _ _ (0, 0) hnew
  have m4 : W1.cell? ⟨w.heap.size, 4, none⟩ = some (.slice A4 DD d4) := cell_of_row _ _ 4 _ _ (0, 0) hnew
  have HW1 := Lib.hid hW1
  have HB1 := Lib.hid hb1
  clear hW1 hb1 hnew hLL hDD
  go_enter Try.func27, Try.ntmps27
  go_upto_region 1 with fail
  rw [HW1.out]
  go_wp2_with (go_at_call 53; refine (HC.out _ HB1.out).mono ?_; (rintro r w3 ⟨rfl, hb3⟩); have HB3 := Lib.hid (HB1.out.trans (hb3.mono HB1.out.size)); clear hb3)
  go_ret
  exact ⟨rfl, HB3.out⟩
end Go.Proofs.Ytkloipjkialakaa
