/- Chapter 10: the project's makers: Dict, Stream, Arr, Str, Name, Pair and the plain ones. -/
import Derived.Test.YtkloipjkialakaaPk10
namespace Go.Proofs.Ytkloipjkialakaa
open Go.RowKit Go.Sort
set_option linter.unusedVariables false
set_option maxRecDepth 100000

theorem pIntC (n : Int) (w : World) (hn : -9223372036854775808 ≤ n ∧ n ≤ 9223372036854775807) : Calls Try.prog 23 #[.int .i64 n] w (CpP w (.mk 2 n [] .nil .nil)) := by
  go_enter Try.func23, Try.ntmps23
  go_wp2_with fail
  refine bodyPost_ret (results_cell_row rfl _ _ w.heap.size 27 _ (0, 0) _ rfl (heap_alloc_new w _) Try.underlying27 rfl (by kernel_rfl)) rfl ?_
  exact ⟨_, _, _, _, _, rfl, ObR.plain (by omega) hn (bytS_nil _ _), (Below.refl _ _).alloc (Nat.le_refl _) _⟩
theorem pRefC (n : Int) (w : World) (hn : -9223372036854775808 ≤ n ∧ n ≤ 9223372036854775807) : Calls Try.prog 11 #[.int .i64 n] w (CpP w (.mk 9 n [] .nil .nil)) := by
  go_enter Try.func11, Try.ntmps11
  go_wp2_with fail
  refine bodyPost_ret (results_cell_row rfl _ _ w.heap.size 27 _ (0, 0) _ rfl (heap_alloc_new w _) Try.underlying27 rfl (by kernel_rfl)) rfl ?_
  exact ⟨_, _, _, _, _, rfl, ObR.plain (by omega) hn (bytS_nil _ _), (Below.refl _ _).alloc (Nat.le_refl _) _⟩
theorem pRealC (n : Int) (w : World) (hn : -9223372036854775808 ≤ n ∧ n ≤ 9223372036854775807) : Calls Try.prog 24 #[.int .i64 n] w (CpP w (.mk 3 n [] .nil .nil)) := by
  go_enter Try.func24, Try.ntmps24
  go_wp2_with fail
  refine bodyPost_ret (results_cell_row rfl _ _ w.heap.size 27 _ (0, 0) _ rfl (heap_alloc_new w _) Try.underlying27 rfl (by kernel_rfl)) rfl ?_
  exact ⟨_, _, _, _, _, rfl, ObR.plain (by omega) hn (bytS_nil _ _), (Below.refl _ _).alloc (Nat.le_refl _) _⟩
theorem pNoneC (w : World) : Calls Try.prog 43 #[] w (CpP w (.mk 0 0 [] .nil .nil)) := by
  go_enter Try.func43, Try.ntmps43
  go_wp2_with fail
  refine bodyPost_ret (results_cell_row rfl _ _ w.heap.size 27 _ (0, 0) _ rfl (heap_alloc_new w _) Try.underlying27 rfl (by kernel_rfl)) rfl ?_
  exact ⟨_, _, _, _, _, rfl, ObR.plain (by omega) (by omega) (bytS_nil _ _), (Below.refl _ _).alloc (Nat.le_refl _) _⟩
theorem pBoolC (w : World) : Calls Try.prog 20 #[.bool true] w (CpP w (.mk 1 1 [] .nil .nil)) := by
  go_enter Try.func20, Try.ntmps20
  go_wp2_with fail
  refine bodyPost_ret (results_cell_row rfl _ _ w.heap.size 27 _ (0, 0) _ rfl (heap_alloc_new w _) Try.underlying27 rfl (by kernel_rfl)) rfl ?_
  exact ⟨_, _, _, _, _, rfl, ObR.plain (by omega) (by omega) (bytS_nil _ _), (Below.refl _ _).alloc (Nat.le_refl _) _⟩
abbrev oldT (w : World) : Nat → Prop := fun g => g < w.heap.size
/-- Copy of what a maker has laid out. -/
theorem copyOld {x : Ob} {w : World} {c0 c1 c2 c3 c4 : Value} (W : Nat) (hx : ObR w (oldT w) x c0 c1 c2 c3 c4) (hW : wdO W x) (hK : W * htO x ≤ 1000000000) : Calls Try.prog 22 #[.agg #[c0, c1, c2, c3, c4]] w (CpP w x) :=
  pCopyC _ W x hW hK (Nat.le_refl _) (oldT w) w c0 c1 c2 c3 c4 hx (fun _ h => h)
theorem ObR.bytes {w : World} {S : Nat → Prop} {k : Int} {A : Option Addr} {c : Nat} {b : List Int} (hk : -9223372036854775808 ≤ k ∧ k ≤ 9223372036854775807) (hb : BytS w S A b.length c b) : ObR w S (.mk k 0 b .nil .nil) (.int .i64 k) (.int .i64 0) (.slice A b.length c) (.slice none 0 0) (.slice none 0 0) := ObR.plain hk (by omega) hb
theorem pStrC (A : Option Addr) (c : Nat) (b : List Int) (S : Nat → Prop) (w : World) (hb : BytS w S A b.length c b) (hS : ∀ g, S g → g < w.heap.size) (hm : b.length ≤ 100000000) : Calls Try.prog 25 #[.slice A b.length c] w (CpP w (.mk 4 0 b .nil .nil)) := by
  have HB := Lib.hid ((Below.refl w.heap.size w).alloc (Nat.le_refl _) (.cells #[.int .i64 0, .int .i64 0, .slice none 0 0, .slice none 0 0, .slice none 0 0] 27))
  have HN := Lib.hid (heap_alloc_new w (.cells #[.int .i64 0, .int .i64 0, .slice none 0 0, .slice none 0 0, .slice none 0 0] 27))
  obtain ⟨W0, hW0⟩ : ∃ W0, w.alloc (.cells #[.int .i64 0, .int .i64 0, .slice none 0 0, .slice none 0 0, .slice none 0 0] 27) = W0 := ⟨_, rfl⟩
  have hs0 : W0.heap.size = w.heap.size + 1 := by rw [← hW0]; simp
  rw [hW0] at HB HN
  have HS0 := Lib.hid hs0
  have HW0 := Lib.hid hW0
  clear hs0 hW0
  have HCP := Lib.hid (copyOld (w := W0) 1 (ObR.bytes (k := 4) (by omega) (hb.keep (fun g hg => HB.out.block g (hS g hg)) (fun g hg => show g < W0.heap.size by have := hS g hg; have := HB.out.size; omega))) (by unfold wdO; exact ⟨hm, by simp [Obs.len, Ens.len], by unfold wdL; trivial, by unfold wdE; trivial⟩) (by simp [htO, htL, htE]))
  clear hb hS
  go_enter Try.func25, Try.ntmps25
  go_upto_region 1 with fail
  rw [HW0.out]
  go_wp2_with (go_at_call 22; (with_reducible refine HCP.out.mono ?_); (rintro r w3 ⟨d0, d1, d2, d3, d4, rfl, hx3, hb3⟩); (obtain ⟨k9, n9, A29, m29, c29, A39, m39, c39, A49, m49, c49, rfl, rfl, rfl, rfl, rfl⟩ := hx3.form); have HX3 := Lib.hid hx3; have HN3 := Lib.hid (blk_keep9 hb3 HN.out); have HB3 := Lib.hid (HB.out.trans (hb3.mono HB.out.size)); have HZ3 : Hid (W0.heap.size ≤ W0.heap.size) := Lib.hid (Nat.le_refl _); (obtain ⟨r0, r1, r2, r3, r4, r5⟩ := zero_cells HN3.out); clear hx3 hb3 HCP)
  refine bodyPost_ret (results_cell_row rfl _ _ w.heap.size 27 _ (0, 0) _ rfl (set5_row HN3.out) Try.underlying27 rfl (by kernel_rfl)) rfl ?_
  exact ⟨_, _, _, _, _, rfl, ObR.keep (fun g hg => heap_set5 (by have := hg.1; have := HS0.out; have := HZ3.out; omega)) (fun g hg => ⟨by have := hg.1; have := HS0.out; have := HZ3.out; omega, by rw [size_set5]; exact hg.2⟩) _ HX3.out, below_set5 HB3.out (Nat.le_refl _)⟩
end Go.Proofs.Ytkloipjkialakaa
