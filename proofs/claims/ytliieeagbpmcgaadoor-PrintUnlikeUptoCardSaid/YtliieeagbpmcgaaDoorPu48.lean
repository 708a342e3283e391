/- Contracts of functions that the law calls, and what they lean on (a part). -/
import Derived.Test.YtliieeagbpmcgaaDoorPu47
namespace Go.Proofs.YtliieeagbpmcgaaDoor
section
open Go.RowKit
set_option linter.unusedVariables false
set_option maxRecDepth 100000
abbrev aI : Ob := .mk 2 1 [] .nil .nil
abbrev aR : Ob := .mk 3 150000 [] .nil .nil
abbrev aN : Ob := .mk 5 0 [120, 32, 121] .nil .nil
abbrev aL : Obs := .cons aI (.cons aR (.cons aN .nil))
abbrev aA : Ob := .mk 6 0 [] aL .nil
abbrev aB : Ob := .mk 4 0 [97, 41] .nil .nil
abbrev aE : Ens := .cons ⟨#[65]⟩ aA (.cons ⟨#[66]⟩ aB .nil)
abbrev aD : Ob := .mk 7 0 [] .nil aE
theorem aD_pr : prO aD = [60, 60, 47, 65, 32, 91, 49, 32, 49, 46, 53, 32, 47, 120, 35, 50, 48, 121, 93, 47, 66, 32, 60, 54, 49, 50, 57, 62, 62, 62] := by decide +kernel
theorem aD_may : mayO aD 28 = true := by decide +kernel
theorem aE_dict : dictF aE .nil = aE := by
  have h : mayE aE none 28 = true := by decide +kernel
  exact dict_self13 h
theorem aD_ok : okO aD ∧ htO aD ≤ 100000000 := by
  have h := bkO_all aD (by decide +kernel)
  exact ⟨h.1, Nat.le_trans h.2.1 (by decide +kernel)⟩
theorem aL_ok : okL aL := (bkL_all aL (by decide +kernel)).1
theorem aE_ok : okE aE := (bkE_all aE (by decide +kernel)).1
theorem aA_ok : okO aA := (bkO_all aA (by decide +kernel)).1
theorem aB_ok : okO aB := (bkO_all aB (by decide +kernel)).1
theorem ObR.to {w w' : World} {S S' : Nat → Prop} {x : Ob} {c0 c1 c2 c3 c4 : Value} (h : ObR w S x c0 c1 c2 c3 c4) (hS : ∀ g, S g → g < w.heap.size) (hb : Below w.heap.size w w') (hS' : ∀ g, g < w'.heap.size → S' g) : ObR w' S' x c0 c1 c2 c3 c4 :=
  ObR.keep (fun g hg => hb.block g (hS g hg)) (fun g hg => hS' g (Nat.lt_of_lt_of_le (hS g hg) hb.size)) x h
set_option maxHeartbeats 8000000 in
theorem awake13 (w : World) (ht : Tab w) : Calls Tryd.prog 4 #[] w fun r w' => r = .returned (.bool true) ∧ Below w.heap.size w w' := by
  have HI := Lib.hid (fun W => intC 1 W (by omega))
  have HN := Lib.hid (fun W => nameOC ⟨#[120, 32, 121]⟩ W (by decide))
  have hN : strZ ⟨#[120, 32, 121]⟩ = [120, 32, 121] := rfl
  rw [hN] at HN
  have HT := Lib.hid ht
  clear ht hN
  have kc := fun (w : World) (C : Array Value) (n c : Nat) => Lib.run_convert_bytes_const (P := Tryd.prog) w 22 5 C n c Tryd.underlying22 Tryd.underlying5
  go_enter Tryd.func4, Tryd.ntmps4
  go_wp2_with (first
    | (go_at_call 12; refine (HI.out _).mono ?_; (rintro r w1 ⟨d0, d1, d2, d3, d4, rfl, hx1, hb1⟩); (obtain ⟨ak, an, aA2, am2, ac2, aA3, am3, ac3, aA4, am4, ac4, rfl, rfl, rfl, rfl, rfl⟩ := hx1.form); have HX1 := Lib.hid hx1; have HB1 := Lib.hid hb1; clear hx1 hb1)
    | (go_at_call 13; refine (HN.out _).mono ?_; (rintro r w2 ⟨d0, d1, d2, d3, d4, rfl, hx2, hb2⟩); (obtain ⟨bk, bn, bA2, bm2, bc2, bA3, bm3, bc3, bA4, bm4, bc4, rfl, rfl, rfl, rfl, rfl⟩ := hx2.form); have HX2 := Lib.hid hx2; have HB2 := Lib.hid hb2; clear hx2 hb2)
    | (go_at_call 11; generalize hW3 : w2.alloc (.cells #[.int .i64 ak, .int .i64 an, .slice aA2 am2 ac2, .slice aA3 am3 ac3, .slice aA4 am4 ac4, .int .i64 3, .int .i64 150000, .slice none 0 0, .slice none 0 0, .slice none 0 0, .int .i64 bk, .int .i64 bn, .slice bA2 bm2 bc2, .slice bA3 bm3 bc3, .slice bA4 bm4 bc4] 26) = W3; have hb3 : Below w2.heap.size w2 W3 := (hW3 ▸ (Below.refl w2.heap.size w2).alloc (Nat.le_refl _) _); have hn3 : W3.heap[w2.heap.size]? = some (.cells #[.int .i64 ak, .int .i64 an, .slice aA2 am2 ac2, .slice aA3 am3 ac3, .slice aA4 am4 ac4, .int .i64 3, .int .i64 150000, .slice none 0 0, .slice none 0 0, .slice none 0 0, .int .i64 bk, .int .i64 bn, .slice bA2 bm2 bc2, .slice bA3 bm3 bc3, .slice bA4 bm4 bc4] 26 (0, 0)) := (hW3 ▸ heap_alloc_new w2 _); have hs3 : W3.heap.size = w2.heap.size + 1 := (by rw [← hW3]; simp); have HB3 := Lib.hid ((HB1.out.trans (HB2.out.mono HB1.out.size)).trans (hb3.mono (Nat.le_trans HB1.out.size HB2.out.size))); refine (arrC aL (fun g => g < W3.heap.size) W3 (some ⟨w2.heap.size, 0, none⟩) 3 ⟨by decide, fun _ => ⟨w2.heap.size, 0, rfl, by omega, (by
        unfold ObsR
        refine ⟨⟨_, _, _, _, _, cell_of_row _ _ 0 _ _ (0, 0) hn3, cell_of_row _ _ 1 _ _ (0, 0) hn3, cell_of_row _ _ 2 _ _ (0, 0) hn3, cell_of_row _ _ 3 _ _ (0, 0) hn3, cell_of_row _ _ 4 _ _ (0, 0) hn3, HX1.out.to (fun g hg => hg.2) (HB2.out.trans (hb3.mono HB2.out.size)) (fun _ h => h)⟩, ?_⟩
        unfold ObsR
        refine ⟨⟨_, _, _, _, _, cell_of_row _ _ 5 _ _ (0, 0) hn3, cell_of_row _ _ 6 _ _ (0, 0) hn3, cell_of_row _ _ 7 _ _ (0, 0) hn3, cell_of_row _ _ 8 _ _ (0, 0) hn3, cell_of_row _ _ 9 _ _ (0, 0) hn3, ObR.plain (by omega) (by omega) (bytS_nil _ _)⟩, ?_⟩
        unfold ObsR
        refine ⟨⟨_, _, _, _, _, cell_of_row _ _ 10 _ _ (0, 0) hn3, cell_of_row _ _ 11 _ _ (0, 0) hn3, cell_of_row _ _ 12 _ _ (0, 0) hn3, cell_of_row _ _ 13 _ _ (0, 0) hn3, cell_of_row _ _ 14 _ _ (0, 0) hn3, HX2.out.to (fun g hg => hg.2) hb3 (fun _ h => h)⟩, ?_⟩
        unfold ObsR
        trivial)⟩⟩ (fun _ h => h) aL_ok (by decide)).mono ?_; (rintro r w4 ⟨d0, d1, d2, d3, d4, rfl, hx4, hb4⟩); (obtain ⟨ck, cn, cA2, cm2, cc2, cA3, cm3, cc3, cA4, cm4, cc4, rfl, rfl, rfl, rfl, rfl⟩ := hx4.form); have HX4 := Lib.hid hx4; have HB4 := Lib.hid (HB3.out.trans (hb4.mono HB3.out.size)); clear hx4 hb4 hb3 hn3 hs3)
    | (go_at_call 10; refine (rPairC ⟨#[65]⟩ aA (fun g => g < w4.heap.size) w4 _ _ _ _ _ (HX4.out.to (fun g hg => hg.2) (Below.refl _ _) (fun _ h => h)) (fun _ h => h) aA_ok).mono ?_; (rintro r w5 ⟨d0, d1, d2, d3, d4, rfl, hx5, hb5⟩); (obtain ⟨dk, dn, dA2, dm2, dc2, dA3, dm3, dc3, dA4, dm4, dc4, rfl, rfl, rfl, rfl, rfl⟩ := hx5.form); have HX5 := Lib.hid hx5; have HB5 := Lib.hid (HB4.out.trans (hb5.mono HB4.out.size)); clear hx5 hb5 HX4)
    | (go_at_call 14; have hy6 := lit13 w5 (2, 3) [97, 41] (by decide) #[.int .u8 97, .int .u8 41] 2 rfl rfl; have hb6 := (Below.refl w5.heap.size w5).alloc (Nat.le_refl _) (.cells #[.int .u8 97, .int .u8 41] 5 (2, 3)); refine (strC _ 2 2 [97, 41] _ hy6 (by omega)).mono ?_; (rintro r w7 ⟨d0, d1, d2, d3, d4, rfl, hx7, hb7⟩); (obtain ⟨ek, en, eA2, em2, ec2, eA3, em3, ec3, eA4, em4, ec4, rfl, rfl, rfl, rfl, rfl⟩ := hx7.form); have HX7 := Lib.hid hx7; have HB57 := Lib.hid (hb6.trans (hb7.mono hb6.size)); have HB7 := Lib.hid (HB5.out.trans (HB57.out.mono HB5.out.size)); clear hx7 hb7 hb6 hy6)
    | (go_at_call 10; refine (rPairC ⟨#[66]⟩ aB (fun g => g < w7.heap.size) w7 _ _ _ _ _ (HX7.out.to (fun g hg => hg.2) (Below.refl _ _) (fun _ h => h)) (fun _ h => h) aB_ok).mono ?_; (rintro r w8 ⟨d0, d1, d2, d3, d4, rfl, hx8, hb8⟩); (obtain ⟨fk, fn, fA2, fm2, fc2, fA3, fm3, fc3, fA4, fm4, fc4, rfl, rfl, rfl, rfl, rfl⟩ := hx8.form); have HX8 := Lib.hid hx8; have HB78 := Lib.hid hb8; have HB8 := Lib.hid (HB7.out.trans (hb8.mono HB7.out.size)); clear hx8 hb8 HX7)
    | (go_at_call 9; generalize hW9 : w8.alloc (.cells #[.string ⟨#[65]⟩, .int .i64 dk, .int .i64 dn, .slice dA2 dm2 dc2, .slice dA3 dm3 dc3, .slice dA4 dm4 dc4, .string ⟨#[66]⟩, .int .i64 fk, .int .i64 fn, .slice fA2 fm2 fc2, .slice fA3 fm3 fc3, .slice fA4 fm4 fc4] 36) = W9; have hb9 : Below w8.heap.size w8 W9 := (hW9 ▸ (Below.refl w8.heap.size w8).alloc (Nat.le_refl _) _); have hn9 : W9.heap[w8.heap.size]? = some (.cells #[.string ⟨#[65]⟩, .int .i64 dk, .int .i64 dn, .slice dA2 dm2 dc2, .slice dA3 dm3 dc3, .slice dA4 dm4 dc4, .string ⟨#[66]⟩, .int .i64 fk, .int .i64 fn, .slice fA2 fm2 fc2, .slice fA3 fm3 fc3, .slice fA4 fm4 fc4] 36 (0, 0)) := (hW9 ▸ heap_alloc_new w8 _); have hs9 : W9.heap.size = w8.heap.size + 1 := (by rw [← hW9]; simp); have HB9 := Lib.hid (HB8.out.trans (hb9.mono HB8.out.size)); refine (dictC aE (fun g => g < W9.heap.size) W9 (some ⟨w8.heap.size, 0, none⟩) 2 ⟨by decide, fun _ => ⟨w8.heap.size, 0, rfl, by omega, (by
        unfold EnsR
        refine ⟨⟨_, _, _, _, _, cell_of_row _ _ 0 _ _ (0, 0) hn9, cell_of_row _ _ 1 _ _ (0, 0) hn9, cell_of_row _ _ 2 _ _ (0, 0) hn9, cell_of_row _ _ 3 _ _ (0, 0) hn9, cell_of_row _ _ 4 _ _ (0, 0) hn9, cell_of_row _ _ 5 _ _ (0, 0) hn9, HX5.out.to (fun g hg => hg.2) ((HB57.out.trans (HB78.out.mono HB57.out.size)).trans (hb9.mono (Nat.le_trans HB57.out.size HB78.out.size))) (fun _ h => h)⟩, ?_⟩
        unfold EnsR
        refine ⟨⟨_, _, _, _, _, cell_of_row _ _ 6 _ _ (0, 0) hn9, cell_of_row _ _ 7 _ _ (0, 0) hn9, cell_of_row _ _ 8 _ _ (0, 0) hn9, cell_of_row _ _ 9 _ _ (0, 0) hn9, cell_of_row _ _ 10 _ _ (0, 0) hn9, cell_of_row _ _ 11 _ _ (0, 0) hn9, HX8.out.to (fun g hg => hg.2) hb9 (fun _ h => h)⟩, ?_⟩
        unfold EnsR
        trivial)⟩⟩ (fun _ h => h) aE_ok (by decide)).mono ?_; rw [aE_dict]; (rintro r w10 ⟨d0, d1, d2, d3, d4, rfl, hx10, hb10⟩); (obtain ⟨gk, gn, gA2, gm2, gc2, gA3, gm3, gc3, gA4, gm4, gc4, rfl, rfl, rfl, rfl, rfl⟩ := hx10.form); have HX10 := Lib.hid hx10; have HB10 := Lib.hid (HB9.out.trans (hb10.mono HB9.out.size)); clear hx10 hb10 hb9 hn9 hs9)
    | (go_at_call 6; have hv := pVal_yes (x := aD) (HX10.out.to (fun g hg => hg.2) (Below.refl _ _) (fun _ h => h)) (HT.out.below HB10.out (Nat.le_refl _)) aD_ok.1 aD_ok.2 aD_may (by decide) (by rw [aD_pr]; decide); rw [aD_pr] at hv; refine hv.mono ?_; clear hv; (rintro r w11 ⟨v11, rfl, hm11, hb11⟩); obtain ⟨A11, c11, rfl, hy11⟩ := hm11.byt; have hcv : (convert 22 9 (.slice A11 30 c11)).run Tryd.prog w11 = .ok (.string ⟨#[60, 60, 47, 65, 32, 91, 49, 32, 49, 46, 53, 32, 47, 120, 35, 50, 48, 121, 93, 47, 66, 32, 60, 54, 49, 50, 57, 62, 62, 62]⟩) w11 := conv_s13 hy11 ⟨#[60, 60, 47, 65, 32, 91, 49, 32, 49, 46, 53, 32, 47, 120, 35, 50, 48, 121, 93, 47, 66, 32, 60, 54, 49, 50, 57, 62, 62, 62]⟩ rfl; have HB11 := Lib.hid (HB10.out.trans (hb11.mono HB10.out.size)); clear hm11 hb11 hy11))
  go_ret
  exact ⟨rfl, HB11.out⟩
end
end Go.Proofs.YtliieeagbpmcgaaDoor
