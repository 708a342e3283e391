/- Contracts of functions that the law calls, and what they lean on (a part). -/
import Derived.Test.YtliieeagbpmcgaaDoorPu36
import Derived.Test.YtliieeagbpmcgaaDoorPu37
namespace Go.Proofs.YtliieeagbpmcgaaDoor
section
open Go.RowKit Go.Sort
set_option linter.unusedVariables false
set_option maxRecDepth 100000
theorem Tells.yes {r : Ending} {p : Prop} (h : Tells r p) (B : Bool) (hB : B = true ↔ p) : r = .returned (.bool B) := by
  obtain ⟨B', e, h'⟩ := h
  have : B' = B := by rw [Bool.eq_iff_iff, h', hB]
  rw [e, this]
theorem strZ_back {s : ByteArray} {zs : List Int} (hs : s.data.toList = zs.map fun n => UInt8.ofNat n.toNat) (hz : ∀ z ∈ zs, 0 ≤ z ∧ z < 256) : strZ s = zs := by
  unfold strZ
  rw [hs, List.map_map]
  conv => rhs; rw [← List.map_id zs]
  apply List.map_congr_left
  intro z h
  have := hz z h
  simp only [Function.comp, id]
  rw [UInt8.toNat_ofNat']
  omega
set_option maxHeartbeats 2000000 in
theorem longC {S : Nat → Prop} (k : Int) (c1 c3 c4 : Value) (b : List Int) (A : Option Addr) (m c : Nat) (w : World) (hb : BytS w S A m c b) (hS : ∀ g, S g → g < w.heap.size) :
    Calls Tryd.prog 37 #[.agg #[.int .i64 k, c1, .slice A m c, c3, c4]] w fun r w' => r = .returned (.bool (longB k b)) ∧ Below w.heap.size w w' := by
  have hbel := (Below.refl w.heap.size w).alloc (Nat.le_refl _) (.cells #[.int .i64 k, c1, .slice A m c, c3, c4] 26)
  have HB := Lib.hid hbel
  have hb1 : BytS (w.alloc (.cells #[.int .i64 k, c1, .slice A m c, c3, c4] 26)) S A m c b := ⟨hb.1, hb.2.1, hb.2.2.1, fun h0 => by
    obtain ⟨g, o, e, hg, hc⟩ := hb.2.2.2 h0
    exact ⟨g, o, e, hg, fun i hi => (World.cell?_of_block (a := ⟨g, o + i, none⟩) (hbel.block g (hS g hg))).trans (hc i hi)⟩⟩
  obtain ⟨s, hs, hcv⟩ := conv_at hb1
  have hnm : nameS s = nameZ b := by unfold nameS; rw [strZ_back hs hb.2.2.1]
  have hml : b.length = m := hb.1
  obtain ⟨W1, hW1⟩ : ∃ W1, w.alloc (.cells #[.int .i64 k, c1, .slice A m c, c3, c4] 26) = W1 := ⟨_, rfl⟩
  have hn1 : W1.heap[w.heap.size]? = some (.cells #[.int .i64 k, c1, .slice A m c, c3, c4] 26 (0, 0)) := by rw [← hW1]; exact heap_alloc_new w _
  rw [hW1] at hcv HB
  have HW1 := Lib.hid hW1
  obtain ⟨q0, q1, q2, q3, q4, q5⟩ := row5_cells hn1
  clear hbel hb1 hW1 hn1
  by_cases h : k = 4 ∨ k = 5 ∨ k = 8
  · rcases h with rfl | rfl | rfl
    · unfold longB
      rw [if_pos rfl, hml]
      have HNM := Lib.hid hnm
      clear hnm hs hb hml
      go_enter Tryd.func37, Tryd.ntmps37
      go_upto_region 1 with fail
      rw [HW1.out]
      go_wp2
      go_ret
      exact ⟨by simp; omega, HB.out⟩
    · unfold longB
      rw [if_neg (by decide), if_pos rfl, ← hnm]
      clear hnm hs hb hml
      go_enter Tryd.func37, Tryd.ntmps37
      go_upto_region 1 with fail
      rw [HW1.out]
      go_wp2_with (go_at_call 46; refine (namedC _ _).mono ?_; (rintro e w' ⟨rfl, rfl⟩))
      go_ret
      exact ⟨rfl, HB.out⟩
    · unfold longB
      rw [if_neg (by decide), if_neg (by decide), if_pos rfl, hml]
      clear hnm hs hb hml
      go_enter Tryd.func37, Tryd.ntmps37
      go_upto_region 1 with fail
      rw [HW1.out]
      go_wp2
      go_ret
      exact ⟨by simp; omega, HB.out⟩
  · have e : longB k b = true := by unfold longB; rw [if_neg (by omega), if_neg (by omega), if_neg (by omega)]
    rw [e]
    have h4 : (k == 4) = false := beq_eq_false_iff_ne.2 (by omega)
    have h5 : (k == 5) = false := beq_eq_false_iff_ne.2 (by omega)
    have h8 : (k == 8) = false := beq_eq_false_iff_ne.2 (by omega)
    clear h e hnm hs hb hml
    go_enter Tryd.func37, Tryd.ntmps37
    go_upto_region 1 with fail
    rw [HW1.out]
    go_wp2
    go_ret
    exact ⟨rfl, HB.out⟩
set_option maxHeartbeats 4000000 in
theorem holdingC {S : Nat → Prop} (k n : Int) (A2 A3 A4 : Option Addr) (m2 c2 c3 c4 : Nat) (l : Obs) (d : Ens) (w : World) (hlc : l.len ≤ c3 ∧ c3 ≤ 9223372036854775807) (hl : 0 < l.len → ∃ g o, A3 = some ⟨g, o, none⟩ ∧ S g ∧ ObsR w S l g o) (hd : EnsV w S d A4 c4) (hS : ∀ g, S g → g < w.heap.size) :
    Calls Tryd.prog 38 #[.agg #[.int .i64 k, .int .i64 n, .slice A2 m2 c2, .slice A3 l.len c3, .slice A4 d.len c4]] w fun r w' => Tells r (¬ strmL l ∧ ¬ wrongE d ∧ riseP d) ∧ Below w.heap.size w w' := by
  obtain ⟨B1, hB1⟩ : ∃ B : Bool, B = true ↔ strmL l := by classical exact ⟨decide (strmL l), by rw [decide_eq_true_eq]⟩
  obtain ⟨B2, hB2⟩ : ∃ B : Bool, B = true ↔ wrongE d := by classical exact ⟨decide (wrongE d), by rw [decide_eq_true_eq]⟩
  obtain ⟨B3, hB3⟩ : ∃ B : Bool, B = true ↔ riseP d := by classical exact ⟨decide (riseP d), by rw [decide_eq_true_eq]⟩
  have hres : (!B1 && (!B2 && B3)) = true ↔ (¬ strmL l ∧ ¬ wrongE d ∧ riseP d) := by rw [← hB1, ← hB2, ← hB3]; cases B1 <;> cases B2 <;> cases B3 <;> simp
  have HR := Lib.hid hres
  have hbel := (Below.refl w.heap.size w).alloc (Nat.le_refl _) (.cells #[.int .i64 k, .int .i64 n, .slice A2 m2 c2, .slice A3 l.len c3, .slice A4 d.len c4] 26)
  have hn1 := heap_alloc_new w (.cells #[.int .i64 k, .int .i64 n, .slice A2 m2 c2, .slice A3 l.len c3, .slice A4 d.len c4] 26)
  have HO : Hid (∀ W, Below w.heap.size w W → 0 < l.len → ∃ g o, A3 = some ⟨g, o, none⟩ ∧ S g ∧ ObsR W S l g o) := Lib.hid (fun W hW h0 => by
    obtain ⟨g, o, e, hg, hr⟩ := hl h0
    exact ⟨g, o, e, hg, ObsR.keep (fun b hb => hW.block b (hS b hb)) (fun _ h => h) l g o hg hg hr⟩)
  have HV : Hid (∀ W, Below w.heap.size w W → EnsV W S d A4 c4) := Lib.hid (fun W hW => hd.keep (fun b hb => hW.block b (hS b hb)) (fun _ h => h))
  have HC1 : Hid (∀ W, Below w.heap.size w W → Calls Tryd.prog 47 #[.slice A3 l.len c3, .func (.func 48) #[] #[]] W fun r w' => r = .returned (.bool B1) ∧ Below W.heap.size W w') := Lib.hid (fun W hW => (containsOC l hlc (HO.out W hW) (fun g hg => Nat.lt_of_lt_of_le (hS g hg) hW.size)).mono fun r w' ⟨h1, h2⟩ => ⟨h1.yes B1 hB1, h2⟩)
  have HC2 : Hid (∀ W, Below w.heap.size w W → Calls Tryd.prog 49 #[.slice A4 d.len c4, .func (.func 50) #[] #[]] W fun r w' => r = .returned (.bool B2) ∧ Below W.heap.size W w') := Lib.hid (fun W hW => (containsEC d (HV.out W hW) (fun g hg => Nat.lt_of_lt_of_le (hS g hg) hW.size)).mono fun r w' ⟨h1, h2⟩ => ⟨h1.yes B2 hB2, h2⟩)
  have HC3 : Hid (∀ W, Below w.heap.size w W → Calls Tryd.prog 51 #[.slice A4 d.len c4] W fun r w' => r = .returned (.bool B3) ∧ Below W.heap.size W w') := Lib.hid (fun W hW => (riseAC d S W A4 c4 (HV.out W hW) (fun g hg => Nat.lt_of_lt_of_le (hS g hg) hW.size)).mono fun r w' ⟨h1, h2⟩ => ⟨h1.yes B3 hB3, h2⟩)
  obtain ⟨L3, hL3⟩ : ∃ L3, l.len = L3 := ⟨_, rfl⟩
  obtain ⟨L4, hL4⟩ : ∃ L4, d.len = L4 := ⟨_, rfl⟩
  rw [hL3] at HC1 hbel hn1 ⊢
  rw [hL4] at HC2 HC3 hbel hn1 ⊢
  obtain ⟨W1, hW1⟩ : ∃ W1, w.alloc (.cells #[.int .i64 k, .int .i64 n, .slice A2 m2 c2, .slice A3 L3 c3, .slice A4 L4 c4] 26) = W1 := ⟨_, rfl⟩
  have hs1 : W1.heap.size = w.heap.size + 1 := by rw [← hW1]; simp
  rw [hW1] at hbel hn1
  have HEL : Hid (∀ W, Below W1.heap.size W1 W → W.cell? ⟨w.heap.size, 0, none⟩ = some (.int .i64 k) ∧ W.cell? ⟨w.heap.size, 1, none⟩ = some (.int .i64 n) ∧ W.cell? ⟨w.heap.size, 2, none⟩ = some (.slice A2 m2 c2) ∧ W.cell? ⟨w.heap.size, 3, none⟩ = some (.slice A3 L3 c3) ∧ W.cell? ⟨w.heap.size, 4, none⟩ = some (.slice A4 L4 c4)) := Lib.hid (fun W hW => by
    have e1 := (hW.block w.heap.size (by omega)).trans hn1
    exact ⟨cell_of_row _ _ 0 _ _ (0, 0) e1, cell_of_row _ _ 1 _ _ (0, 0) e1, cell_of_row _ _ 2 _ _ (0, 0) e1, cell_of_row _ _ 3 _ _ (0, 0) e1, cell_of_row _ _ 4 _ _ (0, 0) e1⟩)
  have HBW : Hid (∀ W, Below W1.heap.size W1 W → Below w.heap.size w W) := Lib.hid (fun W hW => hbel.trans (hW.mono (by omega)))
  have HW1 := Lib.hid hW1
  have HB : Hid (Below W1.heap.size W1 W1) := Lib.hid (Below.refl _ _)
  obtain ⟨q0, q1, q2, q3, q4⟩ := HEL.out _ HB.out
  clear hB1 hB2 hB3 hres hbel hn1 HO HV hlc hl hd hS hL3 hL4 hW1 hs1
  cases B1 <;> cases B2 <;> cases B3
  all_goals
    go_enter Tryd.func38, Tryd.ntmps38
    go_upto_region 1 with fail
    rw [HW1.out]
    go_wp2_with (first
      | (go_at_call 47; refine (HC1.out _ (HBW.out _ HB.out)).mono ?_; (rintro e w3 ⟨rfl, hb3⟩); have HB' := Lib.hid (HB.out.trans (hb3.mono HB.out.size)); clear HB hb3 q0 q1 q2 q3 q4; have HB := HB'; clear HB'; (obtain ⟨q0, q1, q2, q3, q4⟩ := HEL.out _ HB.out))
      | (go_at_call 49; refine (HC2.out _ (HBW.out _ HB.out)).mono ?_; (rintro e w3 ⟨rfl, hb3⟩); have HB' := Lib.hid (HB.out.trans (hb3.mono HB.out.size)); clear HB hb3 q0 q1 q2 q3 q4; have HB := HB'; clear HB'; (obtain ⟨q0, q1, q2, q3, q4⟩ := HEL.out _ HB.out))
      | (go_at_call 51; refine (HC3.out _ (HBW.out _ HB.out)).mono ?_; (rintro e w3 ⟨rfl, hb3⟩); have HB' := Lib.hid (HB.out.trans (hb3.mono HB.out.size)); clear HB hb3; have HB := HB'; clear HB'))
    go_ret
    exact ⟨⟨_, rfl, HR.out⟩, HBW.out _ HB.out⟩
def FillB (k n : Int) (b l d : Nat) : Bool := decide ((n = 0 ∨ k = 1 ∨ k = 2 ∨ k = 3 ∨ k = 9) ∧ (b = 0 ∨ k = 4 ∨ k = 5 ∨ k = 8) ∧ (l = 0 ∨ k = 6) ∧ (d = 0 ∨ k = 7 ∨ k = 8))
set_option maxHeartbeats 4000000 in
theorem fill_and (k n : Int) (b l d : Nat) : ∃ R : Int, bits BinOp.andNot IntKind.i64 (fillZ n b l d) (usesZ k) = R ∧ (R == 0) = FillB k n b l d := by
  have hu : (k = 1 ∨ k = 2 ∨ k = 3 ∨ k = 9) ∧ usesZ k = 1 ∨ (k = 4 ∨ k = 5) ∧ usesZ k = 2 ∨ k = 6 ∧ usesZ k = 4 ∨ k = 7 ∧ usesZ k = 8 ∨ k = 8 ∧ usesZ k = 10 ∨ (k ≠ 1 ∧ k ≠ 2 ∧ k ≠ 3 ∧ k ≠ 9 ∧ k ≠ 4 ∧ k ≠ 5 ∧ k ≠ 6 ∧ k ≠ 7 ∧ k ≠ 8) ∧ usesZ k = 0 := by
    unfold usesZ
    by_cases a1 : k = 1 ∨ k = 2 ∨ k = 3 ∨ k = 9
    · rw [if_pos a1]; omega
    · rw [if_neg a1]
      by_cases a2 : k = 4 ∨ k = 5
      · rw [if_pos a2]; omega
      · rw [if_neg a2]
        by_cases a3 : k = 6
        · rw [if_pos a3]; omega
        · rw [if_neg a3]
          by_cases a4 : k = 7
          · rw [if_pos a4]; omega
          · rw [if_neg a4]
            by_cases a5 : k = 8
            · rw [if_pos a5]; omega
            · rw [if_neg a5]; omega
  obtain ⟨F, hF⟩ : ∃ F, fillZ n b l d = F := ⟨_, rfl⟩
  obtain ⟨U, hU⟩ : ∃ U, usesZ k = U := ⟨_, rfl⟩
  rw [hF, hU]
  rw [hU] at hu
  unfold fillZ at hF
  unfold FillB
  refine ⟨((F.toNat &&& (15 - U.toNat) : Nat) : Int), ?_, ?_⟩
  · have hf : F = 0 ∨ F = 1 ∨ F = 2 ∨ F = 3 ∨ F = 4 ∨ F = 5 ∨ F = 6 ∨ F = 7 ∨ F = 8 ∨ F = 9 ∨ F = 10 ∨ F = 11 ∨ F = 12 ∨ F = 13 ∨ F = 14 ∨ F = 15 := by
      rw [← hF]
      by_cases h1 : n = 0 <;> by_cases h2 : b = 0 <;> by_cases h3 : l = 0 <;> by_cases h4 : d = 0 <;> simp [h1, h2, h3, h4]
    have hu2 : U = 0 ∨ U = 1 ∨ U = 2 ∨ U = 4 ∨ U = 8 ∨ U = 10 := by omega
    clear hF hu hU
    rcases hf with rfl | rfl | rfl | rfl | rfl | rfl | rfl | rfl | rfl | rfl | rfl | rfl | rfl | rfl | rfl | rfl <;> rcases hu2 with rfl | rfl | rfl | rfl | rfl | rfl <;> rfl
  · by_cases h1 : n = 0 <;> by_cases h2 : b = 0 <;> by_cases h3 : l = 0 <;> by_cases h4 : d = 0
    all_goals
      simp only [h1, h2, h3, h4, if_true, if_false] at hF
      rcases hu with ⟨hk, rfl⟩ | ⟨hk, rfl⟩ | ⟨hk, rfl⟩ | ⟨hk, rfl⟩ | ⟨hk, rfl⟩ | ⟨hk, rfl⟩
      all_goals
        subst hF
        first
          | (rw [decide_eq_true (by omega)]; rfl)
          | (rw [decide_eq_false (by omega)]; rfl)
set_option maxHeartbeats 4000000 in
theorem soundC {S : Nat → Prop} (x : Ob) (c0 c1 c2 c3 c4 : Value) (w : World) (hx : ObR w S x c0 c1 c2 c3 c4) (hS : ∀ g, S g → g < w.heap.size) :
    Calls Tryd.prog 22 #[.agg #[c0, c1, c2, c3, c4]] w fun r w' => Tells r (SoundP x) ∧ Below w.heap.size w w' := by
  obtain ⟨k, n, b, l, d⟩ := x
  unfold ObR at hx
  obtain ⟨rfl, rfl, -, -, ⟨A2, m2, c2', rfl, hb⟩, ⟨A3, c3', rfl, hc3, h3⟩, ⟨A4, c4', rfl, hc4, h4⟩⟩ := hx
  have hml : b.length = m2 := hb.1
  obtain ⟨R, hbo, hR⟩ := fill_and k n m2 l.len d.len
  obtain ⟨B1, hB1⟩ : ∃ B : Bool, decide (0 ≤ k ∧ k ≤ 9) = B := ⟨_, rfl⟩
  obtain ⟨B2, hB2⟩ : ∃ B : Bool, FillB k n m2 l.len d.len = B := ⟨_, rfl⟩
  obtain ⟨B3, hB3⟩ : ∃ B : Bool, numB k n = B := ⟨_, rfl⟩
  obtain ⟨B4, hB4⟩ : ∃ B : Bool, longB k b = B := ⟨_, rfl⟩
  obtain ⟨B5, hB5⟩ : ∃ B : Bool, B = true ↔ (¬ strmL l ∧ ¬ wrongE d ∧ riseP d) := by classical exact ⟨decide (¬ strmL l ∧ ¬ wrongE d ∧ riseP d), by rw [decide_eq_true_eq]⟩
  have hres : (B1 && (B2 && (B3 && (B4 && B5)))) = true ↔ SoundP (.mk k n b l d) := by
    unfold SoundP FillP
    dsimp only
    rw [← hB5, hml, hB3, hB4]
    have e1 : (0 ≤ k ∧ k ≤ 9) ↔ B1 = true := by rw [← hB1, decide_eq_true_eq]
    have e2 := hB2
    unfold FillB at e2
    have e3 : ((n = 0 ∨ k = 1 ∨ k = 2 ∨ k = 3 ∨ k = 9) ∧ (m2 = 0 ∨ k = 4 ∨ k = 5 ∨ k = 8) ∧ (l.len = 0 ∨ k = 6) ∧ (d.len = 0 ∨ k = 7 ∨ k = 8)) ↔ B2 = true := by rw [← e2, decide_eq_true_eq]
    rw [e1, e3]
    cases B1 <;> cases B2 <;> cases B3 <;> cases B4 <;> cases B5 <;> simp
  have HR := Lib.hid hres
  have hR2 : (R == 0) = B2 := hR.trans hB2
  have hk0 : (decide (0 ≤ k) && decide (k ≤ 9)) = B1 := by rw [← hB1]; simp
  have hbel := (Below.refl w.heap.size w).alloc (Nat.le_refl _) (.cells #[.int .i64 k, .int .i64 n, .slice A2 m2 c2', .slice A3 l.len c3', .slice A4 d.len c4'] 26)
  have hn1 := heap_alloc_new w (.cells #[.int .i64 k, .int .i64 n, .slice A2 m2 c2', .slice A3 l.len c3', .slice A4 d.len c4'] 26)
  have HF : Hid (∀ W, Calls Tryd.prog 35 #[.agg #[.int .i64 k, .int .i64 n, .slice A2 m2 c2', .slice A3 l.len c3', .slice A4 d.len c4']] W fun e w' => e = .returned (.int .i64 (fillZ n m2 l.len d.len)) ∧ Below W.heap.size W w') := Lib.hid (fun W => filledC k n A2 A3 A4 m2 c2' l.len c3' d.len c4' W)
  have HN : Hid (∀ W, Calls Tryd.prog 36 #[.agg #[.int .i64 k, .int .i64 n, .slice A2 m2 c2', .slice A3 l.len c3', .slice A4 d.len c4']] W fun e w' => e = .returned (.bool B3) ∧ Below W.heap.size W w') := Lib.hid (fun W => by rw [← hB3]; exact numberedC k n _ _ _ W)
  have hbk : ∀ W, Below w.heap.size w W → BytS W S A2 m2 c2' b := fun W hW => ⟨hb.1, hb.2.1, hb.2.2.1, fun h0 => by
    obtain ⟨g, o, e, hg, hc⟩ := hb.2.2.2 h0
    exact ⟨g, o, e, hg, fun i hi => (World.cell?_of_block (a := ⟨g, o + i, none⟩) (hW.block g (hS g hg))).trans (hc i hi)⟩⟩
  have HL : Hid (∀ W, Below w.heap.size w W → Calls Tryd.prog 37 #[.agg #[.int .i64 k, .int .i64 n, .slice A2 m2 c2', .slice A3 l.len c3', .slice A4 d.len c4']] W fun e w' => e = .returned (.bool B4) ∧ Below W.heap.size W w') := Lib.hid (fun W hW => by rw [← hB4]; exact longC k _ _ _ b A2 m2 c2' W (hbk W hW) (fun g hg => Nat.lt_of_lt_of_le (hS g hg) hW.size))
  have HH : Hid (∀ W, Below w.heap.size w W → Calls Tryd.prog 38 #[.agg #[.int .i64 k, .int .i64 n, .slice A2 m2 c2', .slice A3 l.len c3', .slice A4 d.len c4']] W fun e w' => e = .returned (.bool B5) ∧ Below W.heap.size W w') := Lib.hid (fun W hW => (holdingC (S := S) k n A2 A3 A4 m2 c2' c3' c4' l d W hc3 (fun h0 => by
    obtain ⟨g, o, e, hg, hr⟩ := h3 h0
    exact ⟨g, o, e, hg, ObsR.keep (fun b hb => hW.block b (hS b hb)) (fun _ h => h) l g o hg hg hr⟩) (EnsV.keep ⟨hc4, h4⟩ (fun b hb => hW.block b (hS b hb)) (fun _ h => h)) (fun g hg => Nat.lt_of_lt_of_le (hS g hg) hW.size)).mono fun r w' ⟨h1, h2⟩ => ⟨h1.yes B5 hB5, h2⟩)
  have HU : Hid (∀ W, Calls Tryd.prog 34 #[.int .i64 k] W fun e w' => e = .returned (.int .i64 (usesZ k)) ∧ W = w') := Lib.hid (fun W => usesC k W)
  obtain ⟨F, hF⟩ : ∃ F, fillZ n m2 l.len d.len = F := ⟨_, rfl⟩
  obtain ⟨U, hU⟩ : ∃ U, usesZ k = U := ⟨_, rfl⟩
  rw [hF] at HF hbo
  rw [hU] at HU hbo
  obtain ⟨L3, hL3⟩ : ∃ L3, l.len = L3 := ⟨_, rfl⟩
  obtain ⟨L4, hL4⟩ : ∃ L4, d.len = L4 := ⟨_, rfl⟩
  rw [hL3, hL4] at HF HN HL HH hbel hn1 ⊢
  obtain ⟨W1, hW1⟩ : ∃ W1, w.alloc (.cells #[.int .i64 k, .int .i64 n, .slice A2 m2 c2', .slice A3 L3 c3', .slice A4 L4 c4'] 26) = W1 := ⟨_, rfl⟩
  have hs1 : W1.heap.size = w.heap.size + 1 := by rw [← hW1]; simp
  rw [hW1] at hbel hn1
  have HEL : Hid (∀ W, Below W1.heap.size W1 W → W.cell? ⟨w.heap.size, 0, none⟩ = some (.int .i64 k) ∧ W.cell? ⟨w.heap.size, 1, none⟩ = some (.int .i64 n) ∧ W.cell? ⟨w.heap.size, 2, none⟩ = some (.slice A2 m2 c2') ∧ W.cell? ⟨w.heap.size, 3, none⟩ = some (.slice A3 L3 c3') ∧ W.cell? ⟨w.heap.size, 4, none⟩ = some (.slice A4 L4 c4')) := Lib.hid (fun W hW => by
    have e1 := (hW.block w.heap.size (by omega)).trans hn1
    exact ⟨cell_of_row _ _ 0 _ _ (0, 0) e1, cell_of_row _ _ 1 _ _ (0, 0) e1, cell_of_row _ _ 2 _ _ (0, 0) e1, cell_of_row _ _ 3 _ _ (0, 0) e1, cell_of_row _ _ 4 _ _ (0, 0) e1⟩)
  have HBW : Hid (∀ W, Below W1.heap.size W1 W → Below w.heap.size w W) := Lib.hid (fun W hW => hbel.trans (hW.mono (by omega)))
  have HW1 := Lib.hid hW1
  have HB : Hid (Below W1.heap.size W1 W1.drew) := Lib.hid (Below.refl _ _).drew
  have HBO := Lib.hid hbo
  have HR2 := Lib.hid hR2
  have hB1' := hB1
  clear hB1 hB2 hB3 hB4 hB5 hres hR hR2 hbo hk0 hbel hn1 hbk hb hc3 h3 hc4 h4 hS hF hU hL3 hL4 hW1 hs1 hml
  cases B1
  · have hk := of_decide_eq_false hB1'
    clear hB1'
    by_cases h0 : 0 ≤ k
    · have gd0 : decide (0 ≤ k) = true := decide_eq_true h0
      have gd9 : decide (k ≤ 9) = false := decide_eq_false (fun h => hk ⟨h0, h⟩)
      clear hk h0
      go_enter Tryd.func22, Tryd.ntmps22
      go_upto_region 1 with fail
      rw [HW1.out]
      refine wp_region_heldR (fun W => W.cell? ⟨w.heap.size, 0, none⟩ = some (.int .i64 k) ∧ W.cell? ⟨w.heap.size, 1, none⟩ = some (.int .i64 n) ∧ W.cell? ⟨w.heap.size, 2, none⟩ = some (.slice A2 m2 c2') ∧ W.cell? ⟨w.heap.size, 3, none⟩ = some (.slice A3 L3 c3') ∧ W.cell? ⟨w.heap.size, 4, none⟩ = some (.slice A4 L4 c4')) 1000 (by kernel_rfl) (HEL.out _ HB.out) (fun hHeld => ?_)
      refine wpAnyR_take 0 rfl (by kernel_rfl) (by kernel_rfl) (by kernel_rfl) (by kernel_rfl) (fun _ _ _ h => h) (by rfl) (v := ?_) ?_ (by assumption) ?_
      rotate_left
      focus
        intro wS hSw
        (try dsimp only at hSw)
        go_simp
        (try simp only [hSw])
        (try simp only [gd0])
        (try simp only [gd9])
        (try simp only [hbo])
        (try simp only [hr2])
        (try simp only [hr3])
        try with_reducible rfl
      intro hHeld
      try simp only [Act.put, List.setIfInBounds_toArray, List.set_cons_zero, List.set_cons_succ]
      refine wpAnyR_take 1 rfl (by kernel_rfl) (by kernel_rfl) (by kernel_rfl) (by kernel_rfl) (fun _ _ _ h => h) (by rfl) (v := ?_) ?_ (by assumption) ?_
      rotate_left
      focus
        intro wS hSw
        (try dsimp only at hSw)
        go_simp
        (try simp only [hSw])
        (try simp only [gd0])
        (try simp only [gd9])
        (try simp only [hbo])
        (try simp only [hr2])
        (try simp only [hr3])
        try with_reducible rfl
      intro hHeld
      try simp only [Act.put, List.setIfInBounds_toArray, List.set_cons_zero, List.set_cons_succ]
      refine wpAnyR_take 2 rfl (by kernel_rfl) (by kernel_rfl) (by kernel_rfl) (by kernel_rfl) (fun _ _ _ h => h) (by rfl) (v := ?_) ?_ (by assumption) ?_
      rotate_left
      focus
        intro wS hSw
        (try dsimp only at hSw)
        go_simp
        (try simp only [hSw])
        (try simp only [gd0])
        (try simp only [gd9])
        (try simp only [hbo])
        (try simp only [hr2])
        (try simp only [hr3])
        try with_reducible rfl
      intro hHeld
      try simp only [Act.put, List.setIfInBounds_toArray, List.set_cons_zero, List.set_cons_succ]
      refine wpAnyR_take 3 rfl (by kernel_rfl) (by kernel_rfl) (by kernel_rfl) (by kernel_rfl) (fun _ _ _ h => h) (by rfl) (v := ?_) ?_ (by assumption) ?_
      rotate_left
      focus
        intro wS hSw
        (try dsimp only at hSw)
        go_simp
        (try simp only [hSw])
        (try simp only [gd0])
        (try simp only [gd9])
        (try simp only [hbo])
        (try simp only [hr2])
        (try simp only [hr3])
        try with_reducible rfl
      intro hHeld
      try simp only [Act.put, List.setIfInBounds_toArray, List.set_cons_zero, List.set_cons_succ]
      refine wpAnyR_take 4 rfl (by kernel_rfl) (by kernel_rfl) (by kernel_rfl) (by kernel_rfl) (fun _ _ _ h => h) (by rfl) (v := ?_) ?_ (by assumption) ?_
      rotate_left
      focus
        intro wS hSw
        (try dsimp only at hSw)
        go_simp
        (try simp only [hSw])
        (try simp only [gd0])
        (try simp only [gd9])
        (try simp only [hbo])
        (try simp only [hr2])
        (try simp only [hr3])
        try with_reducible rfl
      intro hHeld
      try simp only [Act.put, List.setIfInBounds_toArray, List.set_cons_zero, List.set_cons_succ]
      refine wpAnyR_take 5 rfl (by kernel_rfl) (by kernel_rfl) (by kernel_rfl) (by kernel_rfl) (fun _ _ _ h => h) (by rfl) (v := ?_) ?_ (by assumption) ?_
      rotate_left
      focus
        intro wS hSw
        (try dsimp only at hSw)
        go_simp
        (try simp only [hSw])
        (try simp only [gd0])
        (try simp only [gd9])
        (try simp only [hbo])
        (try simp only [hr2])
        (try simp only [hr3])
        try with_reducible rfl
      intro hHeld
      try simp only [Act.put, List.setIfInBounds_toArray, List.set_cons_zero, List.set_cons_succ]
      refine wpAnyR_take 6 rfl (by kernel_rfl) (by kernel_rfl) (by kernel_rfl) (by kernel_rfl) (fun _ _ _ h => h) (by rfl) (v := ?_) ?_ (by assumption) ?_
      rotate_left
      focus
        intro wS hSw
        (try dsimp only at hSw)
        go_simp
        (try simp only [hSw])
        (try simp only [gd0])
        (try simp only [gd9])
        (try simp only [hbo])
        (try simp only [hr2])
        (try simp only [hr3])
        try with_reducible rfl
      intro hHeld
      try simp only [Act.put, List.setIfInBounds_toArray, List.set_cons_zero, List.set_cons_succ]
      refine wpAnyR_take 7 rfl (by kernel_rfl) (by kernel_rfl) (by kernel_rfl) (by kernel_rfl) (fun _ _ _ h => h) (by rfl) (v := ?_) ?_ (by assumption) ?_
      rotate_left
      focus
        intro wS hSw
        (try dsimp only at hSw)
        go_simp
        (try simp only [hSw])
        (try simp only [gd0])
        (try simp only [gd9])
        (try simp only [hbo])
        (try simp only [hr2])
        (try simp only [hr3])
        try with_reducible rfl
      intro hHeld
      try simp only [Act.put, List.setIfInBounds_toArray, List.set_cons_zero, List.set_cons_succ]
      refine wpAnyR_take 8 rfl (by kernel_rfl) (by kernel_rfl) (by kernel_rfl) (by kernel_rfl) (fun _ _ _ h => h) (by rfl) (v := ?_) ?_ (by assumption) ?_
      rotate_left
      focus
        intro wS hSw
        (try dsimp only at hSw)
        go_simp
        (try simp only [hSw])
        (try simp only [gd0])
        (try simp only [gd9])
        (try simp only [hbo])
        (try simp only [hr2])
        (try simp only [hr3])
        try with_reducible rfl
      intro hHeld
      try simp only [Act.put, List.setIfInBounds_toArray, List.set_cons_zero, List.set_cons_succ]
      refine wpAnyR_skip 9 rfl (by kernel_rfl) (by kernel_rfl) (by kernel_rfl) (by kernel_rfl) (fun _ _ _ h => h) (by rfl) (by assumption) ?_
      intro hHeld
      try simp only [Act.put, List.setIfInBounds_toArray, List.set_cons_zero, List.set_cons_succ]
      refine wpAnyR_skip 10 rfl (by kernel_rfl) (by kernel_rfl) (by kernel_rfl) (by kernel_rfl) (fun _ _ _ h => h) (by rfl) (by assumption) ?_
      intro hHeld
      try simp only [Act.put, List.setIfInBounds_toArray, List.set_cons_zero, List.set_cons_succ]
      refine wpAnyR_skip 11 rfl (by kernel_rfl) (by kernel_rfl) (by kernel_rfl) (by kernel_rfl) (fun _ _ _ h => h) (by rfl) (by assumption) ?_
      intro hHeld
      try simp only [Act.put, List.setIfInBounds_toArray, List.set_cons_zero, List.set_cons_succ]
      refine wpAnyR_skip 12 rfl (by kernel_rfl) (by kernel_rfl) (by kernel_rfl) (by kernel_rfl) (fun _ _ _ h => h) (by rfl) (by assumption) ?_
      intro hHeld
      try simp only [Act.put, List.setIfInBounds_toArray, List.set_cons_zero, List.set_cons_succ]
      refine wpAnyR_skip 13 rfl (by kernel_rfl) (by kernel_rfl) (by kernel_rfl) (by kernel_rfl) (fun _ _ _ h => h) (by rfl) (by assumption) ?_
      intro hHeld
      try simp only [Act.put, List.setIfInBounds_toArray, List.set_cons_zero, List.set_cons_succ]
      refine wpAnyR_skip 14 rfl (by kernel_rfl) (by kernel_rfl) (by kernel_rfl) (by kernel_rfl) (fun _ _ _ h => h) (by rfl) (by assumption) ?_
      intro hHeld
      try simp only [Act.put, List.setIfInBounds_toArray, List.set_cons_zero, List.set_cons_succ]
      refine wpAnyR_skip 15 rfl (by kernel_rfl) (by kernel_rfl) (by kernel_rfl) (by kernel_rfl) (fun _ _ _ h => h) (by rfl) (by assumption) ?_
      intro hHeld
      try simp only [Act.put, List.setIfInBounds_toArray, List.set_cons_zero, List.set_cons_succ]
      refine wpAnyR_take 16 rfl (by kernel_rfl) (by kernel_rfl) (by kernel_rfl) (by kernel_rfl) (fun _ _ _ h => h) (by rfl) (v := ?_) ?_ (by assumption) ?_
      rotate_left
      focus
        intro wS hSw
        (try dsimp only at hSw)
        go_simp
        (try simp only [hSw])
        (try simp only [gd0])
        (try simp only [gd9])
        (try simp only [hbo])
        (try simp only [hr2])
        (try simp only [hr3])
        try with_reducible rfl
      intro hHeld
      try simp only [Act.put, List.setIfInBounds_toArray, List.set_cons_zero, List.set_cons_succ]
      refine wpAnyR_take 17 rfl (by kernel_rfl) (by kernel_rfl) (by kernel_rfl) (by kernel_rfl) (fun _ _ _ h => h) (by rfl) (v := ?_) ?_ (by assumption) ?_
      rotate_left
      focus
        intro wS hSw
        (try dsimp only at hSw)
        go_simp
        (try simp only [hSw])
        (try simp only [gd0])
        (try simp only [gd9])
        (try simp only [hbo])
        (try simp only [hr2])
        (try simp only [hr3])
        try with_reducible rfl
      intro hHeld
      try simp only [Act.put, List.setIfInBounds_toArray, List.set_cons_zero, List.set_cons_succ]
      refine wpAnyR_skip 18 rfl (by kernel_rfl) (by kernel_rfl) (by kernel_rfl) (by kernel_rfl) (fun _ _ _ h => h) (by rfl) (by assumption) ?_
      intro hHeld
      try simp only [Act.put, List.setIfInBounds_toArray, List.set_cons_zero, List.set_cons_succ]
      refine wpAnyR_skip 19 rfl (by kernel_rfl) (by kernel_rfl) (by kernel_rfl) (by kernel_rfl) (fun _ _ _ h => h) (by rfl) (by assumption) ?_
      intro hHeld
      try simp only [Act.put, List.setIfInBounds_toArray, List.set_cons_zero, List.set_cons_succ]
      refine wpAnyR_take 20 rfl (by kernel_rfl) (by kernel_rfl) (by kernel_rfl) (by kernel_rfl) (fun _ _ _ h => h) (by rfl) (v := ?_) ?_ (by assumption) ?_
      rotate_left
      focus
        intro wS hSw
        (try dsimp only at hSw)
        go_simp
        (try simp only [hSw])
        (try simp only [gd0])
        (try simp only [gd9])
        (try simp only [hbo])
        (try simp only [hr2])
        (try simp only [hr3])
        try with_reducible rfl
      intro hHeld
      try simp only [Act.put, List.setIfInBounds_toArray, List.set_cons_zero, List.set_cons_succ]
      refine wpAnyR_take 21 rfl (by kernel_rfl) (by kernel_rfl) (by kernel_rfl) (by kernel_rfl) (fun _ _ _ h => h) (by rfl) (v := ?_) ?_ (by assumption) ?_
      rotate_left
      focus
        intro wS hSw
        (try dsimp only at hSw)
        go_simp
        (try simp only [hSw])
        (try simp only [gd0])
        (try simp only [gd9])
        (try simp only [hbo])
        (try simp only [hr2])
        (try simp only [hr3])
        try with_reducible rfl
      intro hHeld
      try simp only [Act.put, List.setIfInBounds_toArray, List.set_cons_zero, List.set_cons_succ]
      refine wpAnyR_skip 22 rfl (by kernel_rfl) (by kernel_rfl) (by kernel_rfl) (by kernel_rfl) (fun _ _ _ h => h) (by rfl) (by assumption) ?_
      intro hHeld
      try simp only [Act.put, List.setIfInBounds_toArray, List.set_cons_zero, List.set_cons_succ]
      refine wpAnyR_skip 23 rfl (by kernel_rfl) (by kernel_rfl) (by kernel_rfl) (by kernel_rfl) (fun _ _ _ h => h) (by rfl) (by assumption) ?_
      intro hHeld
      try simp only [Act.put, List.setIfInBounds_toArray, List.set_cons_zero, List.set_cons_succ]
      refine wpAnyR_take 24 rfl (by kernel_rfl) (by kernel_rfl) (by kernel_rfl) (by kernel_rfl) (fun _ _ _ h => h) (by rfl) (v := ?_) ?_ (by assumption) ?_
      rotate_left
      focus
        intro wS hSw
        (try dsimp only at hSw)
        go_simp
        (try simp only [hSw])
        (try simp only [gd0])
        (try simp only [gd9])
        (try simp only [hbo])
        (try simp only [hr2])
        (try simp only [hr3])
        try with_reducible rfl
      intro hHeld
      try simp only [Act.put, List.setIfInBounds_toArray, List.set_cons_zero, List.set_cons_succ]
      refine wpAnyR_take 25 rfl (by kernel_rfl) (by kernel_rfl) (by kernel_rfl) (by kernel_rfl) (fun _ _ _ h => h) (by rfl) (v := ?_) ?_ (by assumption) ?_
      rotate_left
      focus
        intro wS hSw
        (try dsimp only at hSw)
        go_simp
        (try simp only [hSw])
        (try simp only [gd0])
        (try simp only [gd9])
        (try simp only [hbo])
        (try simp only [hr2])
        (try simp only [hr3])
        try with_reducible rfl
      intro hHeld
      try simp only [Act.put, List.setIfInBounds_toArray, List.set_cons_zero, List.set_cons_succ]
      refine wpAnyR_skip 26 rfl (by kernel_rfl) (by kernel_rfl) (by kernel_rfl) (by kernel_rfl) (fun _ _ _ h => h) (by rfl) (by assumption) ?_
      intro hHeld
      try simp only [Act.put, List.setIfInBounds_toArray, List.set_cons_zero, List.set_cons_succ]
      refine wpAnyR_skip 27 rfl (by kernel_rfl) (by kernel_rfl) (by kernel_rfl) (by kernel_rfl) (fun _ _ _ h => h) (by rfl) (by assumption) ?_
      intro hHeld
      try simp only [Act.put, List.setIfInBounds_toArray, List.set_cons_zero, List.set_cons_succ]
      refine wpAnyR_take 28 rfl (by kernel_rfl) (by kernel_rfl) (by kernel_rfl) (by kernel_rfl) (fun _ _ _ h => h) (by rfl) (v := ?_) ?_ (by assumption) ?_
      rotate_left
      focus
        intro wS hSw
        (try dsimp only at hSw)
        go_simp
        (try simp only [hSw])
        (try simp only [gd0])
        (try simp only [gd9])
        (try simp only [hbo])
        (try simp only [hr2])
        (try simp only [hr3])
        try with_reducible rfl
      intro hHeld
      try simp only [Act.put, List.setIfInBounds_toArray, List.set_cons_zero, List.set_cons_succ]
      refine wpAnyR_take 29 rfl (by kernel_rfl) (by kernel_rfl) (by kernel_rfl) (by kernel_rfl) (fun _ _ _ h => h) (by rfl) (v := ?_) ?_ (by assumption) ?_
      rotate_left
      focus
        intro wS hSw
        (try dsimp only at hSw)
        go_simp
        (try simp only [hSw])
        (try simp only [gd0])
        (try simp only [gd9])
        (try simp only [hbo])
        (try simp only [hr2])
        (try simp only [hr3])
        try with_reducible rfl
      intro hHeld
      try simp only [Act.put, List.setIfInBounds_toArray, List.set_cons_zero, List.set_cons_succ]
      refine wpAnyR_done (by kernel_rfl) ?_
      refine NoPanic.normal ?_
      go_wp2_with fail
      go_ret
      exact ⟨⟨_, rfl, HR.out⟩, HBW.out _ HB.out⟩
    · have gd0 : decide (0 ≤ k) = false := decide_eq_false h0
      clear hk h0
      go_enter Tryd.func22, Tryd.ntmps22
      go_upto_region 1 with fail
      rw [HW1.out]
      refine wp_region_heldR (fun W => W.cell? ⟨w.heap.size, 0, none⟩ = some (.int .i64 k) ∧ W.cell? ⟨w.heap.size, 1, none⟩ = some (.int .i64 n) ∧ W.cell? ⟨w.heap.size, 2, none⟩ = some (.slice A2 m2 c2') ∧ W.cell? ⟨w.heap.size, 3, none⟩ = some (.slice A3 L3 c3') ∧ W.cell? ⟨w.heap.size, 4, none⟩ = some (.slice A4 L4 c4')) 1000 (by kernel_rfl) (HEL.out _ HB.out) (fun hHeld => ?_)
      refine wpAnyR_take 0 rfl (by kernel_rfl) (by kernel_rfl) (by kernel_rfl) (by kernel_rfl) (fun _ _ _ h => h) (by rfl) (v := ?_) ?_ (by assumption) ?_
      rotate_left
      focus
        intro wS hSw
        (try dsimp only at hSw)
        go_simp
        (try simp only [hSw])
        (try simp only [gd0])
        (try simp only [gd9])
        (try simp only [hbo])
        (try simp only [hr2])
        (try simp only [hr3])
        try with_reducible rfl
      intro hHeld
      try simp only [Act.put, List.setIfInBounds_toArray, List.set_cons_zero, List.set_cons_succ]
      refine wpAnyR_take 1 rfl (by kernel_rfl) (by kernel_rfl) (by kernel_rfl) (by kernel_rfl) (fun _ _ _ h => h) (by rfl) (v := ?_) ?_ (by assumption) ?_
      rotate_left
      focus
        intro wS hSw
        (try dsimp only at hSw)
        go_simp
        (try simp only [hSw])
        (try simp only [gd0])
        (try simp only [gd9])
        (try simp only [hbo])
        (try simp only [hr2])
        (try simp only [hr3])
        try with_reducible rfl
      intro hHeld
      try simp only [Act.put, List.setIfInBounds_toArray, List.set_cons_zero, List.set_cons_succ]
      refine wpAnyR_take 2 rfl (by kernel_rfl) (by kernel_rfl) (by kernel_rfl) (by kernel_rfl) (fun _ _ _ h => h) (by rfl) (v := ?_) ?_ (by assumption) ?_
      rotate_left
      focus
        intro wS hSw
        (try dsimp only at hSw)
        go_simp
        (try simp only [hSw])
        (try simp only [gd0])
        (try simp only [gd9])
        (try simp only [hbo])
        (try simp only [hr2])
        (try simp only [hr3])
        try with_reducible rfl
      intro hHeld
      try simp only [Act.put, List.setIfInBounds_toArray, List.set_cons_zero, List.set_cons_succ]
      refine wpAnyR_take 3 rfl (by kernel_rfl) (by kernel_rfl) (by kernel_rfl) (by kernel_rfl) (fun _ _ _ h => h) (by rfl) (v := ?_) ?_ (by assumption) ?_
      rotate_left
      focus
        intro wS hSw
        (try dsimp only at hSw)
        go_simp
        (try simp only [hSw])
        (try simp only [gd0])
        (try simp only [gd9])
        (try simp only [hbo])
        (try simp only [hr2])
        (try simp only [hr3])
        try with_reducible rfl
      intro hHeld
      try simp only [Act.put, List.setIfInBounds_toArray, List.set_cons_zero, List.set_cons_succ]
      refine wpAnyR_skip 4 rfl (by kernel_rfl) (by kernel_rfl) (by kernel_rfl) (by kernel_rfl) (fun _ _ _ h => h) (by rfl) (by assumption) ?_
      intro hHeld
      try simp only [Act.put, List.setIfInBounds_toArray, List.set_cons_zero, List.set_cons_succ]
      refine wpAnyR_skip 5 rfl (by kernel_rfl) (by kernel_rfl) (by kernel_rfl) (by kernel_rfl) (fun _ _ _ h => h) (by rfl) (by assumption) ?_
      intro hHeld
      try simp only [Act.put, List.setIfInBounds_toArray, List.set_cons_zero, List.set_cons_succ]
      refine wpAnyR_skip 6 rfl (by kernel_rfl) (by kernel_rfl) (by kernel_rfl) (by kernel_rfl) (fun _ _ _ h => h) (by rfl) (by assumption) ?_
      intro hHeld
      try simp only [Act.put, List.setIfInBounds_toArray, List.set_cons_zero, List.set_cons_succ]
      refine wpAnyR_take 7 rfl (by kernel_rfl) (by kernel_rfl) (by kernel_rfl) (by kernel_rfl) (fun _ _ _ h => h) (by rfl) (v := ?_) ?_ (by assumption) ?_
      rotate_left
      focus
        intro wS hSw
        (try dsimp only at hSw)
        go_simp
        (try simp only [hSw])
        (try simp only [gd0])
        (try simp only [gd9])
        (try simp only [hbo])
        (try simp only [hr2])
        (try simp only [hr3])
        try with_reducible rfl
      intro hHeld
      try simp only [Act.put, List.setIfInBounds_toArray, List.set_cons_zero, List.set_cons_succ]
      refine wpAnyR_take 8 rfl (by kernel_rfl) (by kernel_rfl) (by kernel_rfl) (by kernel_rfl) (fun _ _ _ h => h) (by rfl) (v := ?_) ?_ (by assumption) ?_
      rotate_left
      focus
        intro wS hSw
        (try dsimp only at hSw)
        go_simp
        (try simp only [hSw])
        (try simp only [gd0])
        (try simp only [gd9])
        (try simp only [hbo])
        (try simp only [hr2])
        (try simp only [hr3])
        try with_reducible rfl
      intro hHeld
      try simp only [Act.put, List.setIfInBounds_toArray, List.set_cons_zero, List.set_cons_succ]
      refine wpAnyR_skip 9 rfl (by kernel_rfl) (by kernel_rfl) (by kernel_rfl) (by kernel_rfl) (fun _ _ _ h => h) (by rfl) (by assumption) ?_
      intro hHeld
      try simp only [Act.put, List.setIfInBounds_toArray, List.set_cons_zero, List.set_cons_succ]
      refine wpAnyR_skip 10 rfl (by kernel_rfl) (by kernel_rfl) (by kernel_rfl) (by kernel_rfl) (fun _ _ _ h => h) (by rfl) (by assumption) ?_
      intro hHeld
      try simp only [Act.put, List.setIfInBounds_toArray, List.set_cons_zero, List.set_cons_succ]
      refine wpAnyR_skip 11 rfl (by kernel_rfl) (by kernel_rfl) (by kernel_rfl) (by kernel_rfl) (fun _ _ _ h => h) (by rfl) (by assumption) ?_
      intro hHeld
      try simp only [Act.put, List.setIfInBounds_toArray, List.set_cons_zero, List.set_cons_succ]
      refine wpAnyR_skip 12 rfl (by kernel_rfl) (by kernel_rfl) (by kernel_rfl) (by kernel_rfl) (fun _ _ _ h => h) (by rfl) (by assumption) ?_
      intro hHeld
      try simp only [Act.put, List.setIfInBounds_toArray, List.set_cons_zero, List.set_cons_succ]
      refine wpAnyR_skip 13 rfl (by kernel_rfl) (by kernel_rfl) (by kernel_rfl) (by kernel_rfl) (fun _ _ _ h => h) (by rfl) (by assumption) ?_
      intro hHeld
      try simp only [Act.put, List.setIfInBounds_toArray, List.set_cons_zero, List.set_cons_succ]
      refine wpAnyR_skip 14 rfl (by kernel_rfl) (by kernel_rfl) (by kernel_rfl) (by kernel_rfl) (fun _ _ _ h => h) (by rfl) (by assumption) ?_
      intro hHeld
      try simp only [Act.put, List.setIfInBounds_toArray, List.set_cons_zero, List.set_cons_succ]
      refine wpAnyR_skip 15 rfl (by kernel_rfl) (by kernel_rfl) (by kernel_rfl) (by kernel_rfl) (fun _ _ _ h => h) (by rfl) (by assumption) ?_
      intro hHeld
      try simp only [Act.put, List.setIfInBounds_toArray, List.set_cons_zero, List.set_cons_succ]
      refine wpAnyR_take 16 rfl (by kernel_rfl) (by kernel_rfl) (by kernel_rfl) (by kernel_rfl) (fun _ _ _ h => h) (by rfl) (v := ?_) ?_ (by assumption) ?_
      rotate_left
      focus
        intro wS hSw
        (try dsimp only at hSw)
        go_simp
        (try simp only [hSw])
        (try simp only [gd0])
        (try simp only [gd9])
        (try simp only [hbo])
        (try simp only [hr2])
        (try simp only [hr3])
        try with_reducible rfl
      intro hHeld
      try simp only [Act.put, List.setIfInBounds_toArray, List.set_cons_zero, List.set_cons_succ]
      refine wpAnyR_take 17 rfl (by kernel_rfl) (by kernel_rfl) (by kernel_rfl) (by kernel_rfl) (fun _ _ _ h => h) (by rfl) (v := ?_) ?_ (by assumption) ?_
      rotate_left
      focus
        intro wS hSw
        (try dsimp only at hSw)
        go_simp
        (try simp only [hSw])
        (try simp only [gd0])
        (try simp only [gd9])
        (try simp only [hbo])
        (try simp only [hr2])
        (try simp only [hr3])
        try with_reducible rfl
      intro hHeld
      try simp only [Act.put, List.setIfInBounds_toArray, List.set_cons_zero, List.set_cons_succ]
      refine wpAnyR_skip 18 rfl (by kernel_rfl) (by kernel_rfl) (by kernel_rfl) (by kernel_rfl) (fun _ _ _ h => h) (by rfl) (by assumption) ?_
      intro hHeld
      try simp only [Act.put, List.setIfInBounds_toArray, List.set_cons_zero, List.set_cons_succ]
      refine wpAnyR_skip 19 rfl (by kernel_rfl) (by kernel_rfl) (by kernel_rfl) (by kernel_rfl) (fun _ _ _ h => h) (by rfl) (by assumption) ?_
      intro hHeld
      try simp only [Act.put, List.setIfInBounds_toArray, List.set_cons_zero, List.set_cons_succ]
      refine wpAnyR_take 20 rfl (by kernel_rfl) (by kernel_rfl) (by kernel_rfl) (by kernel_rfl) (fun _ _ _ h => h) (by rfl) (v := ?_) ?_ (by assumption) ?_
      rotate_left
      focus
        intro wS hSw
        (try dsimp only at hSw)
        go_simp
        (try simp only [hSw])
        (try simp only [gd0])
        (try simp only [gd9])
        (try simp only [hbo])
        (try simp only [hr2])
        (try simp only [hr3])
        try with_reducible rfl
      intro hHeld
      try simp only [Act.put, List.setIfInBounds_toArray, List.set_cons_zero, List.set_cons_succ]
      refine wpAnyR_take 21 rfl (by kernel_rfl) (by kernel_rfl) (by kernel_rfl) (by kernel_rfl) (fun _ _ _ h => h) (by rfl) (v := ?_) ?_ (by assumption) ?_
      rotate_left
      focus
        intro wS hSw
        (try dsimp only at hSw)
        go_simp
        (try simp only [hSw])
        (try simp only [gd0])
        (try simp only [gd9])
        (try simp only [hbo])
        (try simp only [hr2])
        (try simp only [hr3])
        try with_reducible rfl
      intro hHeld
      try simp only [Act.put, List.setIfInBounds_toArray, List.set_cons_zero, List.set_cons_succ]
      refine wpAnyR_skip 22 rfl (by kernel_rfl) (by kernel_rfl) (by kernel_rfl) (by kernel_rfl) (fun _ _ _ h => h) (by rfl) (by assumption) ?_
      intro hHeld
      try simp only [Act.put, List.setIfInBounds_toArray, List.set_cons_zero, List.set_cons_succ]
      refine wpAnyR_skip 23 rfl (by kernel_rfl) (by kernel_rfl) (by kernel_rfl) (by kernel_rfl) (fun _ _ _ h => h) (by rfl) (by assumption) ?_
      intro hHeld
      try simp only [Act.put, List.setIfInBounds_toArray, List.set_cons_zero, List.set_cons_succ]
      refine wpAnyR_take 24 rfl (by kernel_rfl) (by kernel_rfl) (by kernel_rfl) (by kernel_rfl) (fun _ _ _ h => h) (by rfl) (v := ?_) ?_ (by assumption) ?_
      rotate_left
      focus
        intro wS hSw
        (try dsimp only at hSw)
        go_simp
        (try simp only [hSw])
        (try simp only [gd0])
        (try simp only [gd9])
        (try simp only [hbo])
        (try simp only [hr2])
        (try simp only [hr3])
        try with_reducible rfl
      intro hHeld
      try simp only [Act.put, List.setIfInBounds_toArray, List.set_cons_zero, List.set_cons_succ]
      refine wpAnyR_take 25 rfl (by kernel_rfl) (by kernel_rfl) (by kernel_rfl) (by kernel_rfl) (fun _ _ _ h => h) (by rfl) (v := ?_) ?_ (by assumption) ?_
      rotate_left
      focus
        intro wS hSw
        (try dsimp only at hSw)
        go_simp
        (try simp only [hSw])
        (try simp only [gd0])
        (try simp only [gd9])
        (try simp only [hbo])
        (try simp only [hr2])
        (try simp only [hr3])
        try with_reducible rfl
      intro hHeld
      try simp only [Act.put, List.setIfInBounds_toArray, List.set_cons_zero, List.set_cons_succ]
      refine wpAnyR_skip 26 rfl (by kernel_rfl) (by kernel_rfl) (by kernel_rfl) (by kernel_rfl) (fun _ _ _ h => h) (by rfl) (by assumption) ?_
      intro hHeld
      try simp only [Act.put, List.setIfInBounds_toArray, List.set_cons_zero, List.set_cons_succ]
      refine wpAnyR_skip 27 rfl (by kernel_rfl) (by kernel_rfl) (by kernel_rfl) (by kernel_rfl) (fun _ _ _ h => h) (by rfl) (by assumption) ?_
      intro hHeld
      try simp only [Act.put, List.setIfInBounds_toArray, List.set_cons_zero, List.set_cons_succ]
      refine wpAnyR_take 28 rfl (by kernel_rfl) (by kernel_rfl) (by kernel_rfl) (by kernel_rfl) (fun _ _ _ h => h) (by rfl) (v := ?_) ?_ (by assumption) ?_
      rotate_left
      focus
        intro wS hSw
        (try dsimp only at hSw)
        go_simp
        (try simp only [hSw])
        (try simp only [gd0])
        (try simp only [gd9])
        (try simp only [hbo])
        (try simp only [hr2])
        (try simp only [hr3])
        try with_reducible rfl
      intro hHeld
      try simp only [Act.put, List.setIfInBounds_toArray, List.set_cons_zero, List.set_cons_succ]
      refine wpAnyR_take 29 rfl (by kernel_rfl) (by kernel_rfl) (by kernel_rfl) (by kernel_rfl) (fun _ _ _ h => h) (by rfl) (v := ?_) ?_ (by assumption) ?_
      rotate_left
      focus
        intro wS hSw
        (try dsimp only at hSw)
        go_simp
        (try simp only [hSw])
        (try simp only [gd0])
        (try simp only [gd9])
        (try simp only [hbo])
        (try simp only [hr2])
        (try simp only [hr3])
        try with_reducible rfl
      intro hHeld
      try simp only [Act.put, List.setIfInBounds_toArray, List.set_cons_zero, List.set_cons_succ]
      refine wpAnyR_done (by kernel_rfl) ?_
      refine NoPanic.normal ?_
      go_wp2_with fail
      go_ret
      exact ⟨⟨_, rfl, HR.out⟩, HBW.out _ HB.out⟩
  have gd0 : decide (0 ≤ k) = true := decide_eq_true (of_decide_eq_true hB1').1
  have gd9 : decide (k ≤ 9) = true := decide_eq_true (of_decide_eq_true hB1').2
  clear hB1'
  have hbo := HBO.out
  have hr2 := HR2.out
  have hr3 : decide (R = 0) = B2 := by rw [← hr2]; rfl
  cases B2
  · go_enter Tryd.func22, Tryd.ntmps22
    go_upto_region 1 with fail
    rw [HW1.out]
    refine wp_region_heldR (fun W => W.cell? ⟨w.heap.size, 0, none⟩ = some (.int .i64 k) ∧ W.cell? ⟨w.heap.size, 1, none⟩ = some (.int .i64 n) ∧ W.cell? ⟨w.heap.size, 2, none⟩ = some (.slice A2 m2 c2') ∧ W.cell? ⟨w.heap.size, 3, none⟩ = some (.slice A3 L3 c3') ∧ W.cell? ⟨w.heap.size, 4, none⟩ = some (.slice A4 L4 c4')) 1000 (by kernel_rfl) (HEL.out _ HB.out) (fun hHeld => ?_)
    refine wpAnyR_take 0 rfl (by kernel_rfl) (by kernel_rfl) (by kernel_rfl) (by kernel_rfl) (fun _ _ _ h => h) (by rfl) (v := ?_) ?_ (by assumption) ?_
    rotate_left
    focus
      intro wS hSw
      (try dsimp only at hSw)
      go_simp
      (try simp only [hSw])
      (try simp only [gd0])
      (try simp only [gd9])
      (try simp only [hbo])
      (try simp only [hr2])
      (try simp only [hr3])
      try with_reducible rfl
    intro hHeld
    try simp only [Act.put, List.setIfInBounds_toArray, List.set_cons_zero, List.set_cons_succ]
    refine wpAnyR_take 1 rfl (by kernel_rfl) (by kernel_rfl) (by kernel_rfl) (by kernel_rfl) (fun _ _ _ h => h) (by rfl) (v := ?_) ?_ (by assumption) ?_
    rotate_left
    focus
      intro wS hSw
      (try dsimp only at hSw)
      go_simp
      (try simp only [hSw])
      (try simp only [gd0])
      (try simp only [gd9])
      (try simp only [hbo])
      (try simp only [hr2])
      (try simp only [hr3])
      try with_reducible rfl
    intro hHeld
    try simp only [Act.put, List.setIfInBounds_toArray, List.set_cons_zero, List.set_cons_succ]
    refine wpAnyR_take 2 rfl (by kernel_rfl) (by kernel_rfl) (by kernel_rfl) (by kernel_rfl) (fun _ _ _ h => h) (by rfl) (v := ?_) ?_ (by assumption) ?_
    rotate_left
    focus
      intro wS hSw
      (try dsimp only at hSw)
      go_simp
      (try simp only [hSw])
      (try simp only [gd0])
      (try simp only [gd9])
      (try simp only [hbo])
      (try simp only [hr2])
      (try simp only [hr3])
      try with_reducible rfl
    intro hHeld
    try simp only [Act.put, List.setIfInBounds_toArray, List.set_cons_zero, List.set_cons_succ]
    refine wpAnyR_take 3 rfl (by kernel_rfl) (by kernel_rfl) (by kernel_rfl) (by kernel_rfl) (fun _ _ _ h => h) (by rfl) (v := ?_) ?_ (by assumption) ?_
    rotate_left
    focus
      intro wS hSw
      (try dsimp only at hSw)
      go_simp
      (try simp only [hSw])
      (try simp only [gd0])
      (try simp only [gd9])
      (try simp only [hbo])
      (try simp only [hr2])
      (try simp only [hr3])
      try with_reducible rfl
    intro hHeld
    try simp only [Act.put, List.setIfInBounds_toArray, List.set_cons_zero, List.set_cons_succ]
    refine wpAnyR_take 4 rfl (by kernel_rfl) (by kernel_rfl) (by kernel_rfl) (by kernel_rfl) (fun _ _ _ h => h) (by rfl) (v := ?_) ?_ (by assumption) ?_
    rotate_left
    focus
      intro wS hSw
      (try dsimp only at hSw)
      go_simp
      (try simp only [hSw])
      (try simp only [gd0])
      (try simp only [gd9])
      (try simp only [hbo])
      (try simp only [hr2])
      (try simp only [hr3])
      try with_reducible rfl
    intro hHeld
    try simp only [Act.put, List.setIfInBounds_toArray, List.set_cons_zero, List.set_cons_succ]
    refine wpAnyR_take 5 rfl (by kernel_rfl) (by kernel_rfl) (by kernel_rfl) (by kernel_rfl) (fun _ _ _ h => h) (by rfl) (v := ?_) ?_ (by assumption) ?_
    rotate_left
    focus
      intro wS hSw
      (try dsimp only at hSw)
      go_simp
      (try simp only [hSw])
      (try simp only [gd0])
      (try simp only [gd9])
      (try simp only [hbo])
      (try simp only [hr2])
      (try simp only [hr3])
      try with_reducible rfl
    intro hHeld
    try simp only [Act.put, List.setIfInBounds_toArray, List.set_cons_zero, List.set_cons_succ]
    refine wpAnyR_take 6 rfl (by kernel_rfl) (by kernel_rfl) (by kernel_rfl) (by kernel_rfl) (fun _ _ _ h => h) (by rfl) (v := ?_) ?_ (by assumption) ?_
    rotate_left
    focus
      intro wS hSw
      (try dsimp only at hSw)
      go_simp
      (try simp only [hSw])
      (try simp only [gd0])
      (try simp only [gd9])
      (try simp only [hbo])
      (try simp only [hr2])
      (try simp only [hr3])
      try with_reducible rfl
    intro hHeld
    try simp only [Act.put, List.setIfInBounds_toArray, List.set_cons_zero, List.set_cons_succ]
    refine wpAnyR_take 7 rfl (by kernel_rfl) (by kernel_rfl) (by kernel_rfl) (by kernel_rfl) (fun _ _ _ h => h) (by rfl) (v := ?_) ?_ (by assumption) ?_
    rotate_left
    focus
      intro wS hSw
      (try dsimp only at hSw)
      go_simp
      (try simp only [hSw])
      (try simp only [gd0])
      (try simp only [gd9])
      (try simp only [hbo])
      (try simp only [hr2])
      (try simp only [hr3])
      try with_reducible rfl
    intro hHeld
    try simp only [Act.put, List.setIfInBounds_toArray, List.set_cons_zero, List.set_cons_succ]
    refine wpAnyR_take 8 rfl (by kernel_rfl) (by kernel_rfl) (by kernel_rfl) (by kernel_rfl) (fun _ _ _ h => h) (by rfl) (v := ?_) ?_ (by assumption) ?_
    rotate_left
    focus
      intro wS hSw
      (try dsimp only at hSw)
      go_simp
      (try simp only [hSw])
      (try simp only [gd0])
      (try simp only [gd9])
      (try simp only [hbo])
      (try simp only [hr2])
      (try simp only [hr3])
      try with_reducible rfl
    intro hHeld
    try simp only [Act.put, List.setIfInBounds_toArray, List.set_cons_zero, List.set_cons_succ]
    refine wpAnyR_take 9 rfl (by kernel_rfl) (by kernel_rfl) (by kernel_rfl) (by kernel_rfl) (fun _ _ _ h => h) (by rfl) (v := ?_) ?_ (by assumption) ?_
    rotate_left
    focus
      intro wS hSw
      (try dsimp only at hSw)
      go_simp
      (try simp only [hSw])
      (try simp only [gd0])
      (try simp only [gd9])
      (try simp only [hbo])
      (try simp only [hr2])
      (try simp only [hr3])
      try with_reducible rfl
    intro hHeld
    try simp only [Act.put, List.setIfInBounds_toArray, List.set_cons_zero, List.set_cons_succ]
    refine wpAnyR_take 11 rfl (by kernel_rfl) (by kernel_rfl) (by kernel_rfl) (by kernel_rfl) (fun _ _ _ h => h) (by rfl) (v := ?_) ?_ (by assumption) ?_
    rotate_left
    focus
      intro wS hSw
      (try dsimp only at hSw)
      go_simp
      (try simp only [hSw])
      (try simp only [gd0])
      (try simp only [gd9])
      (try simp only [hbo])
      (try simp only [hr2])
      (try simp only [hr3])
      try with_reducible rfl
    intro hHeld
    try simp only [Act.put, List.setIfInBounds_toArray, List.set_cons_zero, List.set_cons_succ]
    refine wpAnyR_take 12 rfl (by kernel_rfl) (by kernel_rfl) (by kernel_rfl) (by kernel_rfl) (fun _ _ _ h => h) (by rfl) (v := ?_) ?_ (by assumption) ?_
    rotate_left
    focus
      intro wS hSw
      (try dsimp only at hSw)
      go_simp
      (try simp only [hSw])
      (try simp only [gd0])
      (try simp only [gd9])
      (try simp only [hbo])
      (try simp only [hr2])
      (try simp only [hr3])
      try with_reducible rfl
    intro hHeld
    try simp only [Act.put, List.setIfInBounds_toArray, List.set_cons_zero, List.set_cons_succ]
    refine wpAnyR_step 10 rfl (by kernel_rfl) (fun K hK => ?_)
    go_simp
    go_at_call 35
    refine (HF.out _).mono ?_
    rintro e w3 ⟨rfl, hb3⟩
    have HB' := Lib.hid (HB.out.trans (hb3.mono HB.out.size))
    clear HB hb3
    have HB := HB'
    clear HB'
    go_wp2_with fail
    refine hK.out _ _ (HEL.out _ HB.out) (fun hHeld => ?_)
    clear hK K
    try simp only [Act.put, List.setIfInBounds_toArray, List.set_cons_zero, List.set_cons_succ]
    refine wpAnyR_step 13 rfl (by kernel_rfl) (fun K hK => ?_)
    go_simp
    go_at_call 34
    refine (HU.out _).mono ?_
    rintro e w4 ⟨rfl, rfl⟩
    go_wp2_with fail
    refine hK.out _ _ (HEL.out _ HB.out) (fun hHeld => ?_)
    clear hK K
    try simp only [Act.put, List.setIfInBounds_toArray, List.set_cons_zero, List.set_cons_succ]
    refine wpAnyR_take 14 rfl (by kernel_rfl) (by kernel_rfl) (by kernel_rfl) (by kernel_rfl) (fun _ _ _ h => h) (by rfl) (v := ?_) ?_ (by assumption) ?_
    rotate_left
    focus
      intro wS hSw
      (try dsimp only at hSw)
      go_simp
      (try simp only [hSw])
      (try simp only [gd0])
      (try simp only [gd9])
      (try simp only [hbo])
      (try simp only [hr2])
      (try simp only [hr3])
      try with_reducible rfl
    intro hHeld
    try simp only [Act.put, List.setIfInBounds_toArray, List.set_cons_zero, List.set_cons_succ]
    refine wpAnyR_take 15 rfl (by kernel_rfl) (by kernel_rfl) (by kernel_rfl) (by kernel_rfl) (fun _ _ _ h => h) (by rfl) (v := ?_) ?_ (by assumption) ?_
    rotate_left
    focus
      intro wS hSw
      (try dsimp only at hSw)
      go_simp
      (try simp only [hSw])
      (try simp only [gd0])
      (try simp only [gd9])
      (try simp only [hbo])
      (try simp only [hr2])
      (try simp only [hr3])
      try with_reducible rfl
    intro hHeld
    try simp only [Act.put, List.setIfInBounds_toArray, List.set_cons_zero, List.set_cons_succ]
    refine wpAnyR_take 16 rfl (by kernel_rfl) (by kernel_rfl) (by kernel_rfl) (by kernel_rfl) (fun _ _ _ h => h) (by rfl) (v := ?_) ?_ (by assumption) ?_
    rotate_left
    focus
      intro wS hSw
      (try dsimp only at hSw)
      go_simp
      (try simp only [hSw])
      (try simp only [gd0])
      (try simp only [gd9])
      (try simp only [hbo])
      (try simp only [hr2])
      (try simp only [hr3])
      try with_reducible rfl
    intro hHeld
    try simp only [Act.put, List.setIfInBounds_toArray, List.set_cons_zero, List.set_cons_succ]
    refine wpAnyR_take 17 rfl (by kernel_rfl) (by kernel_rfl) (by kernel_rfl) (by kernel_rfl) (fun _ _ _ h => h) (by rfl) (v := ?_) ?_ (by assumption) ?_
    rotate_left
    focus
      intro wS hSw
      (try dsimp only at hSw)
      go_simp
      (try simp only [hSw])
      (try simp only [gd0])
      (try simp only [gd9])
      (try simp only [hbo])
      (try simp only [hr2])
      (try simp only [hr3])
      try with_reducible rfl
    intro hHeld
    try simp only [Act.put, List.setIfInBounds_toArray, List.set_cons_zero, List.set_cons_succ]
    refine wpAnyR_skip 18 rfl (by kernel_rfl) (by kernel_rfl) (by kernel_rfl) (by kernel_rfl) (fun _ _ _ h => h) (by rfl) (by assumption) ?_
    intro hHeld
    try simp only [Act.put, List.setIfInBounds_toArray, List.set_cons_zero, List.set_cons_succ]
    refine wpAnyR_skip 19 rfl (by kernel_rfl) (by kernel_rfl) (by kernel_rfl) (by kernel_rfl) (fun _ _ _ h => h) (by rfl) (by assumption) ?_
    intro hHeld
    try simp only [Act.put, List.setIfInBounds_toArray, List.set_cons_zero, List.set_cons_succ]
    refine wpAnyR_take 20 rfl (by kernel_rfl) (by kernel_rfl) (by kernel_rfl) (by kernel_rfl) (fun _ _ _ h => h) (by rfl) (v := ?_) ?_ (by assumption) ?_
    rotate_left
    focus
      intro wS hSw
      (try dsimp only at hSw)
      go_simp
      (try simp only [hSw])
      (try simp only [gd0])
      (try simp only [gd9])
      (try simp only [hbo])
      (try simp only [hr2])
      (try simp only [hr3])
      try with_reducible rfl
    intro hHeld
    try simp only [Act.put, List.setIfInBounds_toArray, List.set_cons_zero, List.set_cons_succ]
    refine wpAnyR_take 21 rfl (by kernel_rfl) (by kernel_rfl) (by kernel_rfl) (by kernel_rfl) (fun _ _ _ h => h) (by rfl) (v := ?_) ?_ (by assumption) ?_
    rotate_left
    focus
      intro wS hSw
      (try dsimp only at hSw)
      go_simp
      (try simp only [hSw])
      (try simp only [gd0])
      (try simp only [gd9])
      (try simp only [hbo])
      (try simp only [hr2])
      (try simp only [hr3])
      try with_reducible rfl
    intro hHeld
    try simp only [Act.put, List.setIfInBounds_toArray, List.set_cons_zero, List.set_cons_succ]
    refine wpAnyR_skip 22 rfl (by kernel_rfl) (by kernel_rfl) (by kernel_rfl) (by kernel_rfl) (fun _ _ _ h => h) (by rfl) (by assumption) ?_
    intro hHeld
    try simp only [Act.put, List.setIfInBounds_toArray, List.set_cons_zero, List.set_cons_succ]
    refine wpAnyR_skip 23 rfl (by kernel_rfl) (by kernel_rfl) (by kernel_rfl) (by kernel_rfl) (fun _ _ _ h => h) (by rfl) (by assumption) ?_
    intro hHeld
    try simp only [Act.put, List.setIfInBounds_toArray, List.set_cons_zero, List.set_cons_succ]
    refine wpAnyR_take 24 rfl (by kernel_rfl) (by kernel_rfl) (by kernel_rfl) (by kernel_rfl) (fun _ _ _ h => h) (by rfl) (v := ?_) ?_ (by assumption) ?_
    rotate_left
    focus
      intro wS hSw
      (try dsimp only at hSw)
      go_simp
      (try simp only [hSw])
      (try simp only [gd0])
      (try simp only [gd9])
      (try simp only [hbo])
      (try simp only [hr2])
      (try simp only [hr3])
      try with_reducible rfl
    intro hHeld
    try simp only [Act.put, List.setIfInBounds_toArray, List.set_cons_zero, List.set_cons_succ]
    refine wpAnyR_take 25 rfl (by kernel_rfl) (by kernel_rfl) (by kernel_rfl) (by kernel_rfl) (fun _ _ _ h => h) (by rfl) (v := ?_) ?_ (by assumption) ?_
    rotate_left
    focus
      intro wS hSw
      (try dsimp only at hSw)
      go_simp
      (try simp only [hSw])
      (try simp only [gd0])
      (try simp only [gd9])
      (try simp only [hbo])
      (try simp only [hr2])
      (try simp only [hr3])
      try with_reducible rfl
    intro hHeld
    try simp only [Act.put, List.setIfInBounds_toArray, List.set_cons_zero, List.set_cons_succ]
    refine wpAnyR_skip 26 rfl (by kernel_rfl) (by kernel_rfl) (by kernel_rfl) (by kernel_rfl) (fun _ _ _ h => h) (by rfl) (by assumption) ?_
    intro hHeld
    try simp only [Act.put, List.setIfInBounds_toArray, List.set_cons_zero, List.set_cons_succ]
    refine wpAnyR_skip 27 rfl (by kernel_rfl) (by kernel_rfl) (by kernel_rfl) (by kernel_rfl) (fun _ _ _ h => h) (by rfl) (by assumption) ?_
    intro hHeld
    try simp only [Act.put, List.setIfInBounds_toArray, List.set_cons_zero, List.set_cons_succ]
    refine wpAnyR_take 28 rfl (by kernel_rfl) (by kernel_rfl) (by kernel_rfl) (by kernel_rfl) (fun _ _ _ h => h) (by rfl) (v := ?_) ?_ (by assumption) ?_
    rotate_left
    focus
      intro wS hSw
      (try dsimp only at hSw)
      go_simp
      (try simp only [hSw])
      (try simp only [gd0])
      (try simp only [gd9])
      (try simp only [hbo])
      (try simp only [hr2])
      (try simp only [hr3])
      try with_reducible rfl
    intro hHeld
    try simp only [Act.put, List.setIfInBounds_toArray, List.set_cons_zero, List.set_cons_succ]
    refine wpAnyR_take 29 rfl (by kernel_rfl) (by kernel_rfl) (by kernel_rfl) (by kernel_rfl) (fun _ _ _ h => h) (by rfl) (v := ?_) ?_ (by assumption) ?_
    rotate_left
    focus
      intro wS hSw
      (try dsimp only at hSw)
      go_simp
      (try simp only [hSw])
      (try simp only [gd0])
      (try simp only [gd9])
      (try simp only [hbo])
      (try simp only [hr2])
      (try simp only [hr3])
      try with_reducible rfl
    intro hHeld
    try simp only [Act.put, List.setIfInBounds_toArray, List.set_cons_zero, List.set_cons_succ]
    refine wpAnyR_done (by kernel_rfl) ?_
    refine NoPanic.normal ?_
    go_wp2_with fail
    go_ret
    exact ⟨⟨_, rfl, HR.out⟩, HBW.out _ HB.out⟩
  cases B3
  · go_enter Tryd.func22, Tryd.ntmps22
    go_upto_region 1 with fail
    rw [HW1.out]
    refine wp_region_heldR (fun W => W.cell? ⟨w.heap.size, 0, none⟩ = some (.int .i64 k) ∧ W.cell? ⟨w.heap.size, 1, none⟩ = some (.int .i64 n) ∧ W.cell? ⟨w.heap.size, 2, none⟩ = some (.slice A2 m2 c2') ∧ W.cell? ⟨w.heap.size, 3, none⟩ = some (.slice A3 L3 c3') ∧ W.cell? ⟨w.heap.size, 4, none⟩ = some (.slice A4 L4 c4')) 1000 (by kernel_rfl) (HEL.out _ HB.out) (fun hHeld => ?_)
    refine wpAnyR_take 0 rfl (by kernel_rfl) (by kernel_rfl) (by kernel_rfl) (by kernel_rfl) (fun _ _ _ h => h) (by rfl) (v := ?_) ?_ (by assumption) ?_
    rotate_left
    focus
      intro wS hSw
      (try dsimp only at hSw)
      go_simp
      (try simp only [hSw])
      (try simp only [gd0])
      (try simp only [gd9])
      (try simp only [hbo])
      (try simp only [hr2])
      (try simp only [hr3])
      try with_reducible rfl
    intro hHeld
    try simp only [Act.put, List.setIfInBounds_toArray, List.set_cons_zero, List.set_cons_succ]
    refine wpAnyR_take 1 rfl (by kernel_rfl) (by kernel_rfl) (by kernel_rfl) (by kernel_rfl) (fun _ _ _ h => h) (by rfl) (v := ?_) ?_ (by assumption) ?_
    rotate_left
    focus
      intro wS hSw
      (try dsimp only at hSw)
      go_simp
      (try simp only [hSw])
      (try simp only [gd0])
      (try simp only [gd9])
      (try simp only [hbo])
      (try simp only [hr2])
      (try simp only [hr3])
      try with_reducible rfl
    intro hHeld
    try simp only [Act.put, List.setIfInBounds_toArray, List.set_cons_zero, List.set_cons_succ]
    refine wpAnyR_take 2 rfl (by kernel_rfl) (by kernel_rfl) (by kernel_rfl) (by kernel_rfl) (fun _ _ _ h => h) (by rfl) (v := ?_) ?_ (by assumption) ?_
    rotate_left
    focus
      intro wS hSw
      (try dsimp only at hSw)
      go_simp
      (try simp only [hSw])
      (try simp only [gd0])
      (try simp only [gd9])
      (try simp only [hbo])
      (try simp only [hr2])
      (try simp only [hr3])
      try with_reducible rfl
    intro hHeld
    try simp only [Act.put, List.setIfInBounds_toArray, List.set_cons_zero, List.set_cons_succ]
    refine wpAnyR_take 3 rfl (by kernel_rfl) (by kernel_rfl) (by kernel_rfl) (by kernel_rfl) (fun _ _ _ h => h) (by rfl) (v := ?_) ?_ (by assumption) ?_
    rotate_left
    focus
      intro wS hSw
      (try dsimp only at hSw)
      go_simp
      (try simp only [hSw])
      (try simp only [gd0])
      (try simp only [gd9])
      (try simp only [hbo])
      (try simp only [hr2])
      (try simp only [hr3])
      try with_reducible rfl
    intro hHeld
    try simp only [Act.put, List.setIfInBounds_toArray, List.set_cons_zero, List.set_cons_succ]
    refine wpAnyR_take 4 rfl (by kernel_rfl) (by kernel_rfl) (by kernel_rfl) (by kernel_rfl) (fun _ _ _ h => h) (by rfl) (v := ?_) ?_ (by assumption) ?_
    rotate_left
    focus
      intro wS hSw
      (try dsimp only at hSw)
      go_simp
      (try simp only [hSw])
      (try simp only [gd0])
      (try simp only [gd9])
      (try simp only [hbo])
      (try simp only [hr2])
      (try simp only [hr3])
      try with_reducible rfl
    intro hHeld
    try simp only [Act.put, List.setIfInBounds_toArray, List.set_cons_zero, List.set_cons_succ]
    refine wpAnyR_take 5 rfl (by kernel_rfl) (by kernel_rfl) (by kernel_rfl) (by kernel_rfl) (fun _ _ _ h => h) (by rfl) (v := ?_) ?_ (by assumption) ?_
    rotate_left
    focus
      intro wS hSw
      (try dsimp only at hSw)
      go_simp
      (try simp only [hSw])
      (try simp only [gd0])
      (try simp only [gd9])
      (try simp only [hbo])
      (try simp only [hr2])
      (try simp only [hr3])
      try with_reducible rfl
    intro hHeld
    try simp only [Act.put, List.setIfInBounds_toArray, List.set_cons_zero, List.set_cons_succ]
    refine wpAnyR_take 6 rfl (by kernel_rfl) (by kernel_rfl) (by kernel_rfl) (by kernel_rfl) (fun _ _ _ h => h) (by rfl) (v := ?_) ?_ (by assumption) ?_
    rotate_left
    focus
      intro wS hSw
      (try dsimp only at hSw)
      go_simp
      (try simp only [hSw])
      (try simp only [gd0])
      (try simp only [gd9])
      (try simp only [hbo])
      (try simp only [hr2])
      (try simp only [hr3])
      try with_reducible rfl
    intro hHeld
    try simp only [Act.put, List.setIfInBounds_toArray, List.set_cons_zero, List.set_cons_succ]
    refine wpAnyR_take 7 rfl (by kernel_rfl) (by kernel_rfl) (by kernel_rfl) (by kernel_rfl) (fun _ _ _ h => h) (by rfl) (v := ?_) ?_ (by assumption) ?_
    rotate_left
    focus
      intro wS hSw
      (try dsimp only at hSw)
      go_simp
      (try simp only [hSw])
      (try simp only [gd0])
      (try simp only [gd9])
      (try simp only [hbo])
      (try simp only [hr2])
      (try simp only [hr3])
      try with_reducible rfl
    intro hHeld
    try simp only [Act.put, List.setIfInBounds_toArray, List.set_cons_zero, List.set_cons_succ]
    refine wpAnyR_take 8 rfl (by kernel_rfl) (by kernel_rfl) (by kernel_rfl) (by kernel_rfl) (fun _ _ _ h => h) (by rfl) (v := ?_) ?_ (by assumption) ?_
    rotate_left
    focus
      intro wS hSw
      (try dsimp only at hSw)
      go_simp
      (try simp only [hSw])
      (try simp only [gd0])
      (try simp only [gd9])
      (try simp only [hbo])
      (try simp only [hr2])
      (try simp only [hr3])
      try with_reducible rfl
    intro hHeld
    try simp only [Act.put, List.setIfInBounds_toArray, List.set_cons_zero, List.set_cons_succ]
    refine wpAnyR_take 9 rfl (by kernel_rfl) (by kernel_rfl) (by kernel_rfl) (by kernel_rfl) (fun _ _ _ h => h) (by rfl) (v := ?_) ?_ (by assumption) ?_
    rotate_left
    focus
      intro wS hSw
      (try dsimp only at hSw)
      go_simp
      (try simp only [hSw])
      (try simp only [gd0])
      (try simp only [gd9])
      (try simp only [hbo])
      (try simp only [hr2])
      (try simp only [hr3])
      try with_reducible rfl
    intro hHeld
    try simp only [Act.put, List.setIfInBounds_toArray, List.set_cons_zero, List.set_cons_succ]
    refine wpAnyR_take 11 rfl (by kernel_rfl) (by kernel_rfl) (by kernel_rfl) (by kernel_rfl) (fun _ _ _ h => h) (by rfl) (v := ?_) ?_ (by assumption) ?_
    rotate_left
    focus
      intro wS hSw
      (try dsimp only at hSw)
      go_simp
      (try simp only [hSw])
      (try simp only [gd0])
      (try simp only [gd9])
      (try simp only [hbo])
      (try simp only [hr2])
      (try simp only [hr3])
      try with_reducible rfl
    intro hHeld
    try simp only [Act.put, List.setIfInBounds_toArray, List.set_cons_zero, List.set_cons_succ]
    refine wpAnyR_take 12 rfl (by kernel_rfl) (by kernel_rfl) (by kernel_rfl) (by kernel_rfl) (fun _ _ _ h => h) (by rfl) (v := ?_) ?_ (by assumption) ?_
    rotate_left
    focus
      intro wS hSw
      (try dsimp only at hSw)
      go_simp
      (try simp only [hSw])
      (try simp only [gd0])
      (try simp only [gd9])
      (try simp only [hbo])
      (try simp only [hr2])
      (try simp only [hr3])
      try with_reducible rfl
    intro hHeld
    try simp only [Act.put, List.setIfInBounds_toArray, List.set_cons_zero, List.set_cons_succ]
    refine wpAnyR_step 10 rfl (by kernel_rfl) (fun K hK => ?_)
    go_simp
    go_at_call 35
    refine (HF.out _).mono ?_
    rintro e w3 ⟨rfl, hb3⟩
    have HB' := Lib.hid (HB.out.trans (hb3.mono HB.out.size))
    clear HB hb3
    have HB := HB'
    clear HB'
    go_wp2_with fail
    refine hK.out _ _ (HEL.out _ HB.out) (fun hHeld => ?_)
    clear hK K
    try simp only [Act.put, List.setIfInBounds_toArray, List.set_cons_zero, List.set_cons_succ]
    refine wpAnyR_step 13 rfl (by kernel_rfl) (fun K hK => ?_)
    go_simp
    go_at_call 34
    refine (HU.out _).mono ?_
    rintro e w4 ⟨rfl, rfl⟩
    go_wp2_with fail
    refine hK.out _ _ (HEL.out _ HB.out) (fun hHeld => ?_)
    clear hK K
    try simp only [Act.put, List.setIfInBounds_toArray, List.set_cons_zero, List.set_cons_succ]
    refine wpAnyR_take 14 rfl (by kernel_rfl) (by kernel_rfl) (by kernel_rfl) (by kernel_rfl) (fun _ _ _ h => h) (by rfl) (v := ?_) ?_ (by assumption) ?_
    rotate_left
    focus
      intro wS hSw
      (try dsimp only at hSw)
      go_simp
      (try simp only [hSw])
      (try simp only [gd0])
      (try simp only [gd9])
      (try simp only [hbo])
      (try simp only [hr2])
      (try simp only [hr3])
      try with_reducible rfl
    intro hHeld
    try simp only [Act.put, List.setIfInBounds_toArray, List.set_cons_zero, List.set_cons_succ]
    refine wpAnyR_take 15 rfl (by kernel_rfl) (by kernel_rfl) (by kernel_rfl) (by kernel_rfl) (fun _ _ _ h => h) (by rfl) (v := ?_) ?_ (by assumption) ?_
    rotate_left
    focus
      intro wS hSw
      (try dsimp only at hSw)
      go_simp
      (try simp only [hSw])
      (try simp only [gd0])
      (try simp only [gd9])
      (try simp only [hbo])
      (try simp only [hr2])
      (try simp only [hr3])
      try with_reducible rfl
    intro hHeld
    try simp only [Act.put, List.setIfInBounds_toArray, List.set_cons_zero, List.set_cons_succ]
    refine wpAnyR_take 16 rfl (by kernel_rfl) (by kernel_rfl) (by kernel_rfl) (by kernel_rfl) (fun _ _ _ h => h) (by rfl) (v := ?_) ?_ (by assumption) ?_
    rotate_left
    focus
      intro wS hSw
      (try dsimp only at hSw)
      go_simp
      (try simp only [hSw])
      (try simp only [gd0])
      (try simp only [gd9])
      (try simp only [hbo])
      (try simp only [hr2])
      (try simp only [hr3])
      try with_reducible rfl
    intro hHeld
    try simp only [Act.put, List.setIfInBounds_toArray, List.set_cons_zero, List.set_cons_succ]
    refine wpAnyR_take 17 rfl (by kernel_rfl) (by kernel_rfl) (by kernel_rfl) (by kernel_rfl) (fun _ _ _ h => h) (by rfl) (v := ?_) ?_ (by assumption) ?_
    rotate_left
    focus
      intro wS hSw
      (try dsimp only at hSw)
      go_simp
      (try simp only [hSw])
      (try simp only [gd0])
      (try simp only [gd9])
      (try simp only [hbo])
      (try simp only [hr2])
      (try simp only [hr3])
      try with_reducible rfl
    intro hHeld
    try simp only [Act.put, List.setIfInBounds_toArray, List.set_cons_zero, List.set_cons_succ]
    refine wpAnyR_take 18 rfl (by kernel_rfl) (by kernel_rfl) (by kernel_rfl) (by kernel_rfl) (fun _ _ _ h => h) (by rfl) (v := ?_) ?_ (by assumption) ?_
    rotate_left
    focus
      intro wS hSw
      (try dsimp only at hSw)
      go_simp
      (try simp only [hSw])
      (try simp only [gd0])
      (try simp only [gd9])
      (try simp only [hbo])
      (try simp only [hr2])
      (try simp only [hr3])
      try with_reducible rfl
    intro hHeld
    try simp only [Act.put, List.setIfInBounds_toArray, List.set_cons_zero, List.set_cons_succ]
    refine wpAnyR_step 19 rfl (by kernel_rfl) (fun K hK => ?_)
    go_simp
    go_at_call 36
    refine (HN.out _).mono ?_
    rintro e w3 ⟨rfl, hb3⟩
    have HB' := Lib.hid (HB.out.trans (hb3.mono HB.out.size))
    clear HB hb3
    have HB := HB'
    clear HB'
    go_wp2_with fail
    refine hK.out _ _ (HEL.out _ HB.out) (fun hHeld => ?_)
    clear hK K
    try simp only [Act.put, List.setIfInBounds_toArray, List.set_cons_zero, List.set_cons_succ]
    refine wpAnyR_take 20 rfl (by kernel_rfl) (by kernel_rfl) (by kernel_rfl) (by kernel_rfl) (fun _ _ _ h => h) (by rfl) (v := ?_) ?_ (by assumption) ?_
    rotate_left
    focus
      intro wS hSw
      (try dsimp only at hSw)
      go_simp
      (try simp only [hSw])
      (try simp only [gd0])
      (try simp only [gd9])
      (try simp only [hbo])
      (try simp only [hr2])
      (try simp only [hr3])
      try with_reducible rfl
    intro hHeld
    try simp only [Act.put, List.setIfInBounds_toArray, List.set_cons_zero, List.set_cons_succ]
    refine wpAnyR_take 21 rfl (by kernel_rfl) (by kernel_rfl) (by kernel_rfl) (by kernel_rfl) (fun _ _ _ h => h) (by rfl) (v := ?_) ?_ (by assumption) ?_
    rotate_left
    focus
      intro wS hSw
      (try dsimp only at hSw)
      go_simp
      (try simp only [hSw])
      (try simp only [gd0])
      (try simp only [gd9])
      (try simp only [hbo])
      (try simp only [hr2])
      (try simp only [hr3])
      try with_reducible rfl
    intro hHeld
    try simp only [Act.put, List.setIfInBounds_toArray, List.set_cons_zero, List.set_cons_succ]
    refine wpAnyR_skip 22 rfl (by kernel_rfl) (by kernel_rfl) (by kernel_rfl) (by kernel_rfl) (fun _ _ _ h => h) (by rfl) (by assumption) ?_
    intro hHeld
    try simp only [Act.put, List.setIfInBounds_toArray, List.set_cons_zero, List.set_cons_succ]
    refine wpAnyR_skip 23 rfl (by kernel_rfl) (by kernel_rfl) (by kernel_rfl) (by kernel_rfl) (fun _ _ _ h => h) (by rfl) (by assumption) ?_
    intro hHeld
    try simp only [Act.put, List.setIfInBounds_toArray, List.set_cons_zero, List.set_cons_succ]
    refine wpAnyR_take 24 rfl (by kernel_rfl) (by kernel_rfl) (by kernel_rfl) (by kernel_rfl) (fun _ _ _ h => h) (by rfl) (v := ?_) ?_ (by assumption) ?_
    rotate_left
    focus
      intro wS hSw
      (try dsimp only at hSw)
      go_simp
      (try simp only [hSw])
      (try simp only [gd0])
      (try simp only [gd9])
      (try simp only [hbo])
      (try simp only [hr2])
      (try simp only [hr3])
      try with_reducible rfl
    intro hHeld
    try simp only [Act.put, List.setIfInBounds_toArray, List.set_cons_zero, List.set_cons_succ]
    refine wpAnyR_take 25 rfl (by kernel_rfl) (by kernel_rfl) (by kernel_rfl) (by kernel_rfl) (fun _ _ _ h => h) (by rfl) (v := ?_) ?_ (by assumption) ?_
    rotate_left
    focus
      intro wS hSw
      (try dsimp only at hSw)
      go_simp
      (try simp only [hSw])
      (try simp only [gd0])
      (try simp only [gd9])
      (try simp only [hbo])
      (try simp only [hr2])
      (try simp only [hr3])
      try with_reducible rfl
    intro hHeld
    try simp only [Act.put, List.setIfInBounds_toArray, List.set_cons_zero, List.set_cons_succ]
    refine wpAnyR_skip 26 rfl (by kernel_rfl) (by kernel_rfl) (by kernel_rfl) (by kernel_rfl) (fun _ _ _ h => h) (by rfl) (by assumption) ?_
    intro hHeld
    try simp only [Act.put, List.setIfInBounds_toArray, List.set_cons_zero, List.set_cons_succ]
    refine wpAnyR_skip 27 rfl (by kernel_rfl) (by kernel_rfl) (by kernel_rfl) (by kernel_rfl) (fun _ _ _ h => h) (by rfl) (by assumption) ?_
    intro hHeld
    try simp only [Act.put, List.setIfInBounds_toArray, List.set_cons_zero, List.set_cons_succ]
    refine wpAnyR_take 28 rfl (by kernel_rfl) (by kernel_rfl) (by kernel_rfl) (by kernel_rfl) (fun _ _ _ h => h) (by rfl) (v := ?_) ?_ (by assumption) ?_
    rotate_left
    focus
      intro wS hSw
      (try dsimp only at hSw)
      go_simp
      (try simp only [hSw])
      (try simp only [gd0])
      (try simp only [gd9])
      (try simp only [hbo])
      (try simp only [hr2])
      (try simp only [hr3])
      try with_reducible rfl
    intro hHeld
    try simp only [Act.put, List.setIfInBounds_toArray, List.set_cons_zero, List.set_cons_succ]
    refine wpAnyR_take 29 rfl (by kernel_rfl) (by kernel_rfl) (by kernel_rfl) (by kernel_rfl) (fun _ _ _ h => h) (by rfl) (v := ?_) ?_ (by assumption) ?_
    rotate_left
    focus
      intro wS hSw
      (try dsimp only at hSw)
      go_simp
      (try simp only [hSw])
      (try simp only [gd0])
      (try simp only [gd9])
      (try simp only [hbo])
      (try simp only [hr2])
      (try simp only [hr3])
      try with_reducible rfl
    intro hHeld
    try simp only [Act.put, List.setIfInBounds_toArray, List.set_cons_zero, List.set_cons_succ]
    refine wpAnyR_done (by kernel_rfl) ?_
    refine NoPanic.normal ?_
    go_wp2_with fail
    go_ret
    exact ⟨⟨_, rfl, HR.out⟩, HBW.out _ HB.out⟩
  cases B4
  · go_enter Tryd.func22, Tryd.ntmps22
    go_upto_region 1 with fail
    rw [HW1.out]
    refine wp_region_heldR (fun W => W.cell? ⟨w.heap.size, 0, none⟩ = some (.int .i64 k) ∧ W.cell? ⟨w.heap.size, 1, none⟩ = some (.int .i64 n) ∧ W.cell? ⟨w.heap.size, 2, none⟩ = some (.slice A2 m2 c2') ∧ W.cell? ⟨w.heap.size, 3, none⟩ = some (.slice A3 L3 c3') ∧ W.cell? ⟨w.heap.size, 4, none⟩ = some (.slice A4 L4 c4')) 1000 (by kernel_rfl) (HEL.out _ HB.out) (fun hHeld => ?_)
    refine wpAnyR_take 0 rfl (by kernel_rfl) (by kernel_rfl) (by kernel_rfl) (by kernel_rfl) (fun _ _ _ h => h) (by rfl) (v := ?_) ?_ (by assumption) ?_
    rotate_left
    focus
      intro wS hSw
      (try dsimp only at hSw)
      go_simp
      (try simp only [hSw])
      (try simp only [gd0])
      (try simp only [gd9])
      (try simp only [hbo])
      (try simp only [hr2])
      (try simp only [hr3])
      try with_reducible rfl
    intro hHeld
    try simp only [Act.put, List.setIfInBounds_toArray, List.set_cons_zero, List.set_cons_succ]
    refine wpAnyR_take 1 rfl (by kernel_rfl) (by kernel_rfl) (by kernel_rfl) (by kernel_rfl) (fun _ _ _ h => h) (by rfl) (v := ?_) ?_ (by assumption) ?_
    rotate_left
    focus
      intro wS hSw
      (try dsimp only at hSw)
      go_simp
      (try simp only [hSw])
      (try simp only [gd0])
      (try simp only [gd9])
      (try simp only [hbo])
      (try simp only [hr2])
      (try simp only [hr3])
      try with_reducible rfl
    intro hHeld
    try simp only [Act.put, List.setIfInBounds_toArray, List.set_cons_zero, List.set_cons_succ]
    refine wpAnyR_take 2 rfl (by kernel_rfl) (by kernel_rfl) (by kernel_rfl) (by kernel_rfl) (fun _ _ _ h => h) (by rfl) (v := ?_) ?_ (by assumption) ?_
    rotate_left
    focus
      intro wS hSw
      (try dsimp only at hSw)
      go_simp
      (try simp only [hSw])
      (try simp only [gd0])
      (try simp only [gd9])
      (try simp only [hbo])
      (try simp only [hr2])
      (try simp only [hr3])
      try with_reducible rfl
    intro hHeld
    try simp only [Act.put, List.setIfInBounds_toArray, List.set_cons_zero, List.set_cons_succ]
    refine wpAnyR_take 3 rfl (by kernel_rfl) (by kernel_rfl) (by kernel_rfl) (by kernel_rfl) (fun _ _ _ h => h) (by rfl) (v := ?_) ?_ (by assumption) ?_
    rotate_left
    focus
      intro wS hSw
      (try dsimp only at hSw)
      go_simp
      (try simp only [hSw])
      (try simp only [gd0])
      (try simp only [gd9])
      (try simp only [hbo])
      (try simp only [hr2])
      (try simp only [hr3])
      try with_reducible rfl
    intro hHeld
    try simp only [Act.put, List.setIfInBounds_toArray, List.set_cons_zero, List.set_cons_succ]
    refine wpAnyR_take 4 rfl (by kernel_rfl) (by kernel_rfl) (by kernel_rfl) (by kernel_rfl) (fun _ _ _ h => h) (by rfl) (v := ?_) ?_ (by assumption) ?_
    rotate_left
    focus
      intro wS hSw
      (try dsimp only at hSw)
      go_simp
      (try simp only [hSw])
      (try simp only [gd0])
      (try simp only [gd9])
      (try simp only [hbo])
      (try simp only [hr2])
      (try simp only [hr3])
      try with_reducible rfl
    intro hHeld
    try simp only [Act.put, List.setIfInBounds_toArray, List.set_cons_zero, List.set_cons_succ]
    refine wpAnyR_take 5 rfl (by kernel_rfl) (by kernel_rfl) (by kernel_rfl) (by kernel_rfl) (fun _ _ _ h => h) (by rfl) (v := ?_) ?_ (by assumption) ?_
    rotate_left
    focus
      intro wS hSw
      (try dsimp only at hSw)
      go_simp
      (try simp only [hSw])
      (try simp only [gd0])
      (try simp only [gd9])
      (try simp only [hbo])
      (try simp only [hr2])
      (try simp only [hr3])
      try with_reducible rfl
    intro hHeld
    try simp only [Act.put, List.setIfInBounds_toArray, List.set_cons_zero, List.set_cons_succ]
    refine wpAnyR_take 6 rfl (by kernel_rfl) (by kernel_rfl) (by kernel_rfl) (by kernel_rfl) (fun _ _ _ h => h) (by rfl) (v := ?_) ?_ (by assumption) ?_
    rotate_left
    focus
      intro wS hSw
      (try dsimp only at hSw)
      go_simp
      (try simp only [hSw])
      (try simp only [gd0])
      (try simp only [gd9])
      (try simp only [hbo])
      (try simp only [hr2])
      (try simp only [hr3])
      try with_reducible rfl
    intro hHeld
    try simp only [Act.put, List.setIfInBounds_toArray, List.set_cons_zero, List.set_cons_succ]
    refine wpAnyR_take 7 rfl (by kernel_rfl) (by kernel_rfl) (by kernel_rfl) (by kernel_rfl) (fun _ _ _ h => h) (by rfl) (v := ?_) ?_ (by assumption) ?_
    rotate_left
    focus
      intro wS hSw
      (try dsimp only at hSw)
      go_simp
      (try simp only [hSw])
      (try simp only [gd0])
      (try simp only [gd9])
      (try simp only [hbo])
      (try simp only [hr2])
      (try simp only [hr3])
      try with_reducible rfl
    intro hHeld
    try simp only [Act.put, List.setIfInBounds_toArray, List.set_cons_zero, List.set_cons_succ]
    refine wpAnyR_take 8 rfl (by kernel_rfl) (by kernel_rfl) (by kernel_rfl) (by kernel_rfl) (fun _ _ _ h => h) (by rfl) (v := ?_) ?_ (by assumption) ?_
    rotate_left
    focus
      intro wS hSw
      (try dsimp only at hSw)
      go_simp
      (try simp only [hSw])
      (try simp only [gd0])
      (try simp only [gd9])
      (try simp only [hbo])
      (try simp only [hr2])
      (try simp only [hr3])
      try with_reducible rfl
    intro hHeld
    try simp only [Act.put, List.setIfInBounds_toArray, List.set_cons_zero, List.set_cons_succ]
    refine wpAnyR_take 9 rfl (by kernel_rfl) (by kernel_rfl) (by kernel_rfl) (by kernel_rfl) (fun _ _ _ h => h) (by rfl) (v := ?_) ?_ (by assumption) ?_
    rotate_left
    focus
      intro wS hSw
      (try dsimp only at hSw)
      go_simp
      (try simp only [hSw])
      (try simp only [gd0])
      (try simp only [gd9])
      (try simp only [hbo])
      (try simp only [hr2])
      (try simp only [hr3])
      try with_reducible rfl
    intro hHeld
    try simp only [Act.put, List.setIfInBounds_toArray, List.set_cons_zero, List.set_cons_succ]
    refine wpAnyR_take 11 rfl (by kernel_rfl) (by kernel_rfl) (by kernel_rfl) (by kernel_rfl) (fun _ _ _ h => h) (by rfl) (v := ?_) ?_ (by assumption) ?_
    rotate_left
    focus
      intro wS hSw
      (try dsimp only at hSw)
      go_simp
      (try simp only [hSw])
      (try simp only [gd0])
      (try simp only [gd9])
      (try simp only [hbo])
      (try simp only [hr2])
      (try simp only [hr3])
      try with_reducible rfl
    intro hHeld
    try simp only [Act.put, List.setIfInBounds_toArray, List.set_cons_zero, List.set_cons_succ]
    refine wpAnyR_take 12 rfl (by kernel_rfl) (by kernel_rfl) (by kernel_rfl) (by kernel_rfl) (fun _ _ _ h => h) (by rfl) (v := ?_) ?_ (by assumption) ?_
    rotate_left
    focus
      intro wS hSw
      (try dsimp only at hSw)
      go_simp
      (try simp only [hSw])
      (try simp only [gd0])
      (try simp only [gd9])
      (try simp only [hbo])
      (try simp only [hr2])
      (try simp only [hr3])
      try with_reducible rfl
    intro hHeld
    try simp only [Act.put, List.setIfInBounds_toArray, List.set_cons_zero, List.set_cons_succ]
    refine wpAnyR_step 10 rfl (by kernel_rfl) (fun K hK => ?_)
    go_simp
    go_at_call 35
    refine (HF.out _).mono ?_
    rintro e w3 ⟨rfl, hb3⟩
    have HB' := Lib.hid (HB.out.trans (hb3.mono HB.out.size))
    clear HB hb3
    have HB := HB'
    clear HB'
    go_wp2_with fail
    refine hK.out _ _ (HEL.out _ HB.out) (fun hHeld => ?_)
    clear hK K
    try simp only [Act.put, List.setIfInBounds_toArray, List.set_cons_zero, List.set_cons_succ]
    refine wpAnyR_step 13 rfl (by kernel_rfl) (fun K hK => ?_)
    go_simp
    go_at_call 34
    refine (HU.out _).mono ?_
    rintro e w4 ⟨rfl, rfl⟩
    go_wp2_with fail
    refine hK.out _ _ (HEL.out _ HB.out) (fun hHeld => ?_)
    clear hK K
    try simp only [Act.put, List.setIfInBounds_toArray, List.set_cons_zero, List.set_cons_succ]
    refine wpAnyR_take 14 rfl (by kernel_rfl) (by kernel_rfl) (by kernel_rfl) (by kernel_rfl) (fun _ _ _ h => h) (by rfl) (v := ?_) ?_ (by assumption) ?_
    rotate_left
    focus
      intro wS hSw
      (try dsimp only at hSw)
      go_simp
      (try simp only [hSw])
      (try simp only [gd0])
      (try simp only [gd9])
      (try simp only [hbo])
      (try simp only [hr2])
      (try simp only [hr3])
      try with_reducible rfl
    intro hHeld
    try simp only [Act.put, List.setIfInBounds_toArray, List.set_cons_zero, List.set_cons_succ]
    refine wpAnyR_take 15 rfl (by kernel_rfl) (by kernel_rfl) (by kernel_rfl) (by kernel_rfl) (fun _ _ _ h => h) (by rfl) (v := ?_) ?_ (by assumption) ?_
    rotate_left
    focus
      intro wS hSw
      (try dsimp only at hSw)
      go_simp
      (try simp only [hSw])
      (try simp only [gd0])
      (try simp only [gd9])
      (try simp only [hbo])
      (try simp only [hr2])
      (try simp only [hr3])
      try with_reducible rfl
    intro hHeld
    try simp only [Act.put, List.setIfInBounds_toArray, List.set_cons_zero, List.set_cons_succ]
    refine wpAnyR_take 16 rfl (by kernel_rfl) (by kernel_rfl) (by kernel_rfl) (by kernel_rfl) (fun _ _ _ h => h) (by rfl) (v := ?_) ?_ (by assumption) ?_
    rotate_left
    focus
      intro wS hSw
      (try dsimp only at hSw)
      go_simp
      (try simp only [hSw])
      (try simp only [gd0])
      (try simp only [gd9])
      (try simp only [hbo])
      (try simp only [hr2])
      (try simp only [hr3])
      try with_reducible rfl
    intro hHeld
    try simp only [Act.put, List.setIfInBounds_toArray, List.set_cons_zero, List.set_cons_succ]
    refine wpAnyR_take 17 rfl (by kernel_rfl) (by kernel_rfl) (by kernel_rfl) (by kernel_rfl) (fun _ _ _ h => h) (by rfl) (v := ?_) ?_ (by assumption) ?_
    rotate_left
    focus
      intro wS hSw
      (try dsimp only at hSw)
      go_simp
      (try simp only [hSw])
      (try simp only [gd0])
      (try simp only [gd9])
      (try simp only [hbo])
      (try simp only [hr2])
      (try simp only [hr3])
      try with_reducible rfl
    intro hHeld
    try simp only [Act.put, List.setIfInBounds_toArray, List.set_cons_zero, List.set_cons_succ]
    refine wpAnyR_take 18 rfl (by kernel_rfl) (by kernel_rfl) (by kernel_rfl) (by kernel_rfl) (fun _ _ _ h => h) (by rfl) (v := ?_) ?_ (by assumption) ?_
    rotate_left
    focus
      intro wS hSw
      (try dsimp only at hSw)
      go_simp
      (try simp only [hSw])
      (try simp only [gd0])
      (try simp only [gd9])
      (try simp only [hbo])
      (try simp only [hr2])
      (try simp only [hr3])
      try with_reducible rfl
    intro hHeld
    try simp only [Act.put, List.setIfInBounds_toArray, List.set_cons_zero, List.set_cons_succ]
    refine wpAnyR_step 19 rfl (by kernel_rfl) (fun K hK => ?_)
    go_simp
    go_at_call 36
    refine (HN.out _).mono ?_
    rintro e w3 ⟨rfl, hb3⟩
    have HB' := Lib.hid (HB.out.trans (hb3.mono HB.out.size))
    clear HB hb3
    have HB := HB'
    clear HB'
    go_wp2_with fail
    refine hK.out _ _ (HEL.out _ HB.out) (fun hHeld => ?_)
    clear hK K
    try simp only [Act.put, List.setIfInBounds_toArray, List.set_cons_zero, List.set_cons_succ]
    refine wpAnyR_take 20 rfl (by kernel_rfl) (by kernel_rfl) (by kernel_rfl) (by kernel_rfl) (fun _ _ _ h => h) (by rfl) (v := ?_) ?_ (by assumption) ?_
    rotate_left
    focus
      intro wS hSw
      (try dsimp only at hSw)
      go_simp
      (try simp only [hSw])
      (try simp only [gd0])
      (try simp only [gd9])
      (try simp only [hbo])
      (try simp only [hr2])
      (try simp only [hr3])
      try with_reducible rfl
    intro hHeld
    try simp only [Act.put, List.setIfInBounds_toArray, List.set_cons_zero, List.set_cons_succ]
    refine wpAnyR_take 21 rfl (by kernel_rfl) (by kernel_rfl) (by kernel_rfl) (by kernel_rfl) (fun _ _ _ h => h) (by rfl) (v := ?_) ?_ (by assumption) ?_
    rotate_left
    focus
      intro wS hSw
      (try dsimp only at hSw)
      go_simp
      (try simp only [hSw])
      (try simp only [gd0])
      (try simp only [gd9])
      (try simp only [hbo])
      (try simp only [hr2])
      (try simp only [hr3])
      try with_reducible rfl
    intro hHeld
    try simp only [Act.put, List.setIfInBounds_toArray, List.set_cons_zero, List.set_cons_succ]
    refine wpAnyR_take 22 rfl (by kernel_rfl) (by kernel_rfl) (by kernel_rfl) (by kernel_rfl) (fun _ _ _ h => h) (by rfl) (v := ?_) ?_ (by assumption) ?_
    rotate_left
    focus
      intro wS hSw
      (try dsimp only at hSw)
      go_simp
      (try simp only [hSw])
      (try simp only [gd0])
      (try simp only [gd9])
      (try simp only [hbo])
      (try simp only [hr2])
      (try simp only [hr3])
      try with_reducible rfl
    intro hHeld
    try simp only [Act.put, List.setIfInBounds_toArray, List.set_cons_zero, List.set_cons_succ]
    refine wpAnyR_step 23 rfl (by kernel_rfl) (fun K hK => ?_)
    go_simp
    go_at_call 37
    refine (HL.out _ (HBW.out _ HB.out)).mono ?_
    rintro e w3 ⟨rfl, hb3⟩
    have HB' := Lib.hid (HB.out.trans (hb3.mono HB.out.size))
    clear HB hb3
    have HB := HB'
    clear HB'
    go_wp2_with fail
    refine hK.out _ _ (HEL.out _ HB.out) (fun hHeld => ?_)
    clear hK K
    try simp only [Act.put, List.setIfInBounds_toArray, List.set_cons_zero, List.set_cons_succ]
    refine wpAnyR_take 24 rfl (by kernel_rfl) (by kernel_rfl) (by kernel_rfl) (by kernel_rfl) (fun _ _ _ h => h) (by rfl) (v := ?_) ?_ (by assumption) ?_
    rotate_left
    focus
      intro wS hSw
      (try dsimp only at hSw)
      go_simp
      (try simp only [hSw])
      (try simp only [gd0])
      (try simp only [gd9])
      (try simp only [hbo])
      (try simp only [hr2])
      (try simp only [hr3])
      try with_reducible rfl
    intro hHeld
    try simp only [Act.put, List.setIfInBounds_toArray, List.set_cons_zero, List.set_cons_succ]
    refine wpAnyR_take 25 rfl (by kernel_rfl) (by kernel_rfl) (by kernel_rfl) (by kernel_rfl) (fun _ _ _ h => h) (by rfl) (v := ?_) ?_ (by assumption) ?_
    rotate_left
    focus
      intro wS hSw
      (try dsimp only at hSw)
      go_simp
      (try simp only [hSw])
      (try simp only [gd0])
      (try simp only [gd9])
      (try simp only [hbo])
      (try simp only [hr2])
      (try simp only [hr3])
      try with_reducible rfl
    intro hHeld
    try simp only [Act.put, List.setIfInBounds_toArray, List.set_cons_zero, List.set_cons_succ]
    refine wpAnyR_skip 26 rfl (by kernel_rfl) (by kernel_rfl) (by kernel_rfl) (by kernel_rfl) (fun _ _ _ h => h) (by rfl) (by assumption) ?_
    intro hHeld
    try simp only [Act.put, List.setIfInBounds_toArray, List.set_cons_zero, List.set_cons_succ]
    refine wpAnyR_skip 27 rfl (by kernel_rfl) (by kernel_rfl) (by kernel_rfl) (by kernel_rfl) (fun _ _ _ h => h) (by rfl) (by assumption) ?_
    intro hHeld
    try simp only [Act.put, List.setIfInBounds_toArray, List.set_cons_zero, List.set_cons_succ]
    refine wpAnyR_take 28 rfl (by kernel_rfl) (by kernel_rfl) (by kernel_rfl) (by kernel_rfl) (fun _ _ _ h => h) (by rfl) (v := ?_) ?_ (by assumption) ?_
    rotate_left
    focus
      intro wS hSw
      (try dsimp only at hSw)
      go_simp
      (try simp only [hSw])
      (try simp only [gd0])
      (try simp only [gd9])
      (try simp only [hbo])
      (try simp only [hr2])
      (try simp only [hr3])
      try with_reducible rfl
    intro hHeld
    try simp only [Act.put, List.setIfInBounds_toArray, List.set_cons_zero, List.set_cons_succ]
    refine wpAnyR_take 29 rfl (by kernel_rfl) (by kernel_rfl) (by kernel_rfl) (by kernel_rfl) (fun _ _ _ h => h) (by rfl) (v := ?_) ?_ (by assumption) ?_
    rotate_left
    focus
      intro wS hSw
      (try dsimp only at hSw)
      go_simp
      (try simp only [hSw])
      (try simp only [gd0])
      (try simp only [gd9])
      (try simp only [hbo])
      (try simp only [hr2])
      (try simp only [hr3])
      try with_reducible rfl
    intro hHeld
    try simp only [Act.put, List.setIfInBounds_toArray, List.set_cons_zero, List.set_cons_succ]
    refine wpAnyR_done (by kernel_rfl) ?_
    refine NoPanic.normal ?_
    go_wp2_with fail
    go_ret
    exact ⟨⟨_, rfl, HR.out⟩, HBW.out _ HB.out⟩
  go_enter Tryd.func22, Tryd.ntmps22
  go_upto_region 1 with fail
  rw [HW1.out]
  refine wp_region_heldR (fun W => W.cell? ⟨w.heap.size, 0, none⟩ = some (.int .i64 k) ∧ W.cell? ⟨w.heap.size, 1, none⟩ = some (.int .i64 n) ∧ W.cell? ⟨w.heap.size, 2, none⟩ = some (.slice A2 m2 c2') ∧ W.cell? ⟨w.heap.size, 3, none⟩ = some (.slice A3 L3 c3') ∧ W.cell? ⟨w.heap.size, 4, none⟩ = some (.slice A4 L4 c4')) 1000 (by kernel_rfl) (HEL.out _ HB.out) (fun hHeld => ?_)
  refine wpAnyR_take 0 rfl (by kernel_rfl) (by kernel_rfl) (by kernel_rfl) (by kernel_rfl) (fun _ _ _ h => h) (by rfl) (v := ?_) ?_ (by assumption) ?_
  rotate_left
  focus
    intro wS hSw
    (try dsimp only at hSw)
    go_simp
    (try simp only [hSw])
    (try simp only [gd0])
    (try simp only [gd9])
    (try simp only [hbo])
    (try simp only [hr2])
    (try simp only [hr3])
    try with_reducible rfl
  intro hHeld
  try simp only [Act.put, List.setIfInBounds_toArray, List.set_cons_zero, List.set_cons_succ]
  refine wpAnyR_take 1 rfl (by kernel_rfl) (by kernel_rfl) (by kernel_rfl) (by kernel_rfl) (fun _ _ _ h => h) (by rfl) (v := ?_) ?_ (by assumption) ?_
  rotate_left
  focus
    intro wS hSw
    (try dsimp only at hSw)
    go_simp
    (try simp only [hSw])
    (try simp only [gd0])
    (try simp only [gd9])
    (try simp only [hbo])
    (try simp only [hr2])
    (try simp only [hr3])
    try with_reducible rfl
  intro hHeld
  try simp only [Act.put, List.setIfInBounds_toArray, List.set_cons_zero, List.set_cons_succ]
  refine wpAnyR_take 2 rfl (by kernel_rfl) (by kernel_rfl) (by kernel_rfl) (by kernel_rfl) (fun _ _ _ h => h) (by rfl) (v := ?_) ?_ (by assumption) ?_
  rotate_left
  focus
    intro wS hSw
    (try dsimp only at hSw)
    go_simp
    (try simp only [hSw])
    (try simp only [gd0])
    (try simp only [gd9])
    (try simp only [hbo])
    (try simp only [hr2])
    (try simp only [hr3])
    try with_reducible rfl
  intro hHeld
  try simp only [Act.put, List.setIfInBounds_toArray, List.set_cons_zero, List.set_cons_succ]
  refine wpAnyR_take 3 rfl (by kernel_rfl) (by kernel_rfl) (by kernel_rfl) (by kernel_rfl) (fun _ _ _ h => h) (by rfl) (v := ?_) ?_ (by assumption) ?_
  rotate_left
  focus
    intro wS hSw
    (try dsimp only at hSw)
    go_simp
    (try simp only [hSw])
    (try simp only [gd0])
    (try simp only [gd9])
    (try simp only [hbo])
    (try simp only [hr2])
    (try simp only [hr3])
    try with_reducible rfl
  intro hHeld
  try simp only [Act.put, List.setIfInBounds_toArray, List.set_cons_zero, List.set_cons_succ]
  refine wpAnyR_take 4 rfl (by kernel_rfl) (by kernel_rfl) (by kernel_rfl) (by kernel_rfl) (fun _ _ _ h => h) (by rfl) (v := ?_) ?_ (by assumption) ?_
  rotate_left
  focus
    intro wS hSw
    (try dsimp only at hSw)
    go_simp
    (try simp only [hSw])
    (try simp only [gd0])
    (try simp only [gd9])
    (try simp only [hbo])
    (try simp only [hr2])
    (try simp only [hr3])
    try with_reducible rfl
  intro hHeld
  try simp only [Act.put, List.setIfInBounds_toArray, List.set_cons_zero, List.set_cons_succ]
  refine wpAnyR_take 5 rfl (by kernel_rfl) (by kernel_rfl) (by kernel_rfl) (by kernel_rfl) (fun _ _ _ h => h) (by rfl) (v := ?_) ?_ (by assumption) ?_
  rotate_left
  focus
    intro wS hSw
    (try dsimp only at hSw)
    go_simp
    (try simp only [hSw])
    (try simp only [gd0])
    (try simp only [gd9])
    (try simp only [hbo])
    (try simp only [hr2])
    (try simp only [hr3])
    try with_reducible rfl
  intro hHeld
  try simp only [Act.put, List.setIfInBounds_toArray, List.set_cons_zero, List.set_cons_succ]
  refine wpAnyR_take 6 rfl (by kernel_rfl) (by kernel_rfl) (by kernel_rfl) (by kernel_rfl) (fun _ _ _ h => h) (by rfl) (v := ?_) ?_ (by assumption) ?_
  rotate_left
  focus
    intro wS hSw
    (try dsimp only at hSw)
    go_simp
    (try simp only [hSw])
    (try simp only [gd0])
    (try simp only [gd9])
    (try simp only [hbo])
    (try simp only [hr2])
    (try simp only [hr3])
    try with_reducible rfl
  intro hHeld
  try simp only [Act.put, List.setIfInBounds_toArray, List.set_cons_zero, List.set_cons_succ]
  refine wpAnyR_take 7 rfl (by kernel_rfl) (by kernel_rfl) (by kernel_rfl) (by kernel_rfl) (fun _ _ _ h => h) (by rfl) (v := ?_) ?_ (by assumption) ?_
  rotate_left
  focus
    intro wS hSw
    (try dsimp only at hSw)
    go_simp
    (try simp only [hSw])
    (try simp only [gd0])
    (try simp only [gd9])
    (try simp only [hbo])
    (try simp only [hr2])
    (try simp only [hr3])
    try with_reducible rfl
  intro hHeld
  try simp only [Act.put, List.setIfInBounds_toArray, List.set_cons_zero, List.set_cons_succ]
  refine wpAnyR_take 8 rfl (by kernel_rfl) (by kernel_rfl) (by kernel_rfl) (by kernel_rfl) (fun _ _ _ h => h) (by rfl) (v := ?_) ?_ (by assumption) ?_
  rotate_left
  focus
    intro wS hSw
    (try dsimp only at hSw)
    go_simp
    (try simp only [hSw])
    (try simp only [gd0])
    (try simp only [gd9])
    (try simp only [hbo])
    (try simp only [hr2])
    (try simp only [hr3])
    try with_reducible rfl
  intro hHeld
  try simp only [Act.put, List.setIfInBounds_toArray, List.set_cons_zero, List.set_cons_succ]
  refine wpAnyR_take 9 rfl (by kernel_rfl) (by kernel_rfl) (by kernel_rfl) (by kernel_rfl) (fun _ _ _ h => h) (by rfl) (v := ?_) ?_ (by assumption) ?_
  rotate_left
  focus
    intro wS hSw
    (try dsimp only at hSw)
    go_simp
    (try simp only [hSw])
    (try simp only [gd0])
    (try simp only [gd9])
    (try simp only [hbo])
    (try simp only [hr2])
    (try simp only [hr3])
    try with_reducible rfl
  intro hHeld
  try simp only [Act.put, List.setIfInBounds_toArray, List.set_cons_zero, List.set_cons_succ]
  refine wpAnyR_take 11 rfl (by kernel_rfl) (by kernel_rfl) (by kernel_rfl) (by kernel_rfl) (fun _ _ _ h => h) (by rfl) (v := ?_) ?_ (by assumption) ?_
  rotate_left
  focus
    intro wS hSw
    (try dsimp only at hSw)
    go_simp
    (try simp only [hSw])
    (try simp only [gd0])
    (try simp only [gd9])
    (try simp only [hbo])
    (try simp only [hr2])
    (try simp only [hr3])
    try with_reducible rfl
  intro hHeld
  try simp only [Act.put, List.setIfInBounds_toArray, List.set_cons_zero, List.set_cons_succ]
  refine wpAnyR_take 12 rfl (by kernel_rfl) (by kernel_rfl) (by kernel_rfl) (by kernel_rfl) (fun _ _ _ h => h) (by rfl) (v := ?_) ?_ (by assumption) ?_
  rotate_left
  focus
    intro wS hSw
    (try dsimp only at hSw)
    go_simp
    (try simp only [hSw])
    (try simp only [gd0])
    (try simp only [gd9])
    (try simp only [hbo])
    (try simp only [hr2])
    (try simp only [hr3])
    try with_reducible rfl
  intro hHeld
  try simp only [Act.put, List.setIfInBounds_toArray, List.set_cons_zero, List.set_cons_succ]
  refine wpAnyR_step 10 rfl (by kernel_rfl) (fun K hK => ?_)
  go_simp
  go_at_call 35
  refine (HF.out _).mono ?_
  rintro e w3 ⟨rfl, hb3⟩
  have HB' := Lib.hid (HB.out.trans (hb3.mono HB.out.size))
  clear HB hb3
  have HB := HB'
  clear HB'
  go_wp2_with fail
  refine hK.out _ _ (HEL.out _ HB.out) (fun hHeld => ?_)
  clear hK K
  try simp only [Act.put, List.setIfInBounds_toArray, List.set_cons_zero, List.set_cons_succ]
  refine wpAnyR_step 13 rfl (by kernel_rfl) (fun K hK => ?_)
  go_simp
  go_at_call 34
  refine (HU.out _).mono ?_
  rintro e w4 ⟨rfl, rfl⟩
  go_wp2_with fail
  refine hK.out _ _ (HEL.out _ HB.out) (fun hHeld => ?_)
  clear hK K
  try simp only [Act.put, List.setIfInBounds_toArray, List.set_cons_zero, List.set_cons_succ]
  refine wpAnyR_take 14 rfl (by kernel_rfl) (by kernel_rfl) (by kernel_rfl) (by kernel_rfl) (fun _ _ _ h => h) (by rfl) (v := ?_) ?_ (by assumption) ?_
  rotate_left
  focus
    intro wS hSw
    (try dsimp only at hSw)
    go_simp
    (try simp only [hSw])
    (try simp only [gd0])
    (try simp only [gd9])
    (try simp only [hbo])
    (try simp only [hr2])
    (try simp only [hr3])
    try with_reducible rfl
  intro hHeld
  try simp only [Act.put, List.setIfInBounds_toArray, List.set_cons_zero, List.set_cons_succ]
  refine wpAnyR_take 15 rfl (by kernel_rfl) (by kernel_rfl) (by kernel_rfl) (by kernel_rfl) (fun _ _ _ h => h) (by rfl) (v := ?_) ?_ (by assumption) ?_
  rotate_left
  focus
    intro wS hSw
    (try dsimp only at hSw)
    go_simp
    (try simp only [hSw])
    (try simp only [gd0])
    (try simp only [gd9])
    (try simp only [hbo])
    (try simp only [hr2])
    (try simp only [hr3])
    try with_reducible rfl
  intro hHeld
  try simp only [Act.put, List.setIfInBounds_toArray, List.set_cons_zero, List.set_cons_succ]
  refine wpAnyR_take 16 rfl (by kernel_rfl) (by kernel_rfl) (by kernel_rfl) (by kernel_rfl) (fun _ _ _ h => h) (by rfl) (v := ?_) ?_ (by assumption) ?_
  rotate_left
  focus
    intro wS hSw
    (try dsimp only at hSw)
    go_simp
    (try simp only [hSw])
    (try simp only [gd0])
    (try simp only [gd9])
    (try simp only [hbo])
    (try simp only [hr2])
    (try simp only [hr3])
    try with_reducible rfl
  intro hHeld
  try simp only [Act.put, List.setIfInBounds_toArray, List.set_cons_zero, List.set_cons_succ]
  refine wpAnyR_take 17 rfl (by kernel_rfl) (by kernel_rfl) (by kernel_rfl) (by kernel_rfl) (fun _ _ _ h => h) (by rfl) (v := ?_) ?_ (by assumption) ?_
  rotate_left
  focus
    intro wS hSw
    (try dsimp only at hSw)
    go_simp
    (try simp only [hSw])
    (try simp only [gd0])
    (try simp only [gd9])
    (try simp only [hbo])
    (try simp only [hr2])
    (try simp only [hr3])
    try with_reducible rfl
  intro hHeld
  try simp only [Act.put, List.setIfInBounds_toArray, List.set_cons_zero, List.set_cons_succ]
  refine wpAnyR_take 18 rfl (by kernel_rfl) (by kernel_rfl) (by kernel_rfl) (by kernel_rfl) (fun _ _ _ h => h) (by rfl) (v := ?_) ?_ (by assumption) ?_
  rotate_left
  focus
    intro wS hSw
    (try dsimp only at hSw)
    go_simp
    (try simp only [hSw])
    (try simp only [gd0])
    (try simp only [gd9])
    (try simp only [hbo])
    (try simp only [hr2])
    (try simp only [hr3])
    try with_reducible rfl
  intro hHeld
  try simp only [Act.put, List.setIfInBounds_toArray, List.set_cons_zero, List.set_cons_succ]
  refine wpAnyR_step 19 rfl (by kernel_rfl) (fun K hK => ?_)
  go_simp
  go_at_call 36
  refine (HN.out _).mono ?_
  rintro e w3 ⟨rfl, hb3⟩
  have HB' := Lib.hid (HB.out.trans (hb3.mono HB.out.size))
  clear HB hb3
  have HB := HB'
  clear HB'
  go_wp2_with fail
  refine hK.out _ _ (HEL.out _ HB.out) (fun hHeld => ?_)
  clear hK K
  try simp only [Act.put, List.setIfInBounds_toArray, List.set_cons_zero, List.set_cons_succ]
  refine wpAnyR_take 20 rfl (by kernel_rfl) (by kernel_rfl) (by kernel_rfl) (by kernel_rfl) (fun _ _ _ h => h) (by rfl) (v := ?_) ?_ (by assumption) ?_
  rotate_left
  focus
    intro wS hSw
    (try dsimp only at hSw)
    go_simp
    (try simp only [hSw])
    (try simp only [gd0])
    (try simp only [gd9])
    (try simp only [hbo])
    (try simp only [hr2])
    (try simp only [hr3])
    try with_reducible rfl
  intro hHeld
  try simp only [Act.put, List.setIfInBounds_toArray, List.set_cons_zero, List.set_cons_succ]
  refine wpAnyR_take 21 rfl (by kernel_rfl) (by kernel_rfl) (by kernel_rfl) (by kernel_rfl) (fun _ _ _ h => h) (by rfl) (v := ?_) ?_ (by assumption) ?_
  rotate_left
  focus
    intro wS hSw
    (try dsimp only at hSw)
    go_simp
    (try simp only [hSw])
    (try simp only [gd0])
    (try simp only [gd9])
    (try simp only [hbo])
    (try simp only [hr2])
    (try simp only [hr3])
    try with_reducible rfl
  intro hHeld
  try simp only [Act.put, List.setIfInBounds_toArray, List.set_cons_zero, List.set_cons_succ]
  refine wpAnyR_take 22 rfl (by kernel_rfl) (by kernel_rfl) (by kernel_rfl) (by kernel_rfl) (fun _ _ _ h => h) (by rfl) (v := ?_) ?_ (by assumption) ?_
  rotate_left
  focus
    intro wS hSw
    (try dsimp only at hSw)
    go_simp
    (try simp only [hSw])
    (try simp only [gd0])
    (try simp only [gd9])
    (try simp only [hbo])
    (try simp only [hr2])
    (try simp only [hr3])
    try with_reducible rfl
  intro hHeld
  try simp only [Act.put, List.setIfInBounds_toArray, List.set_cons_zero, List.set_cons_succ]
  refine wpAnyR_step 23 rfl (by kernel_rfl) (fun K hK => ?_)
  go_simp
  go_at_call 37
  refine (HL.out _ (HBW.out _ HB.out)).mono ?_
  rintro e w3 ⟨rfl, hb3⟩
  have HB' := Lib.hid (HB.out.trans (hb3.mono HB.out.size))
  clear HB hb3
  have HB := HB'
  clear HB'
  go_wp2_with fail
  refine hK.out _ _ (HEL.out _ HB.out) (fun hHeld => ?_)
  clear hK K
  try simp only [Act.put, List.setIfInBounds_toArray, List.set_cons_zero, List.set_cons_succ]
  refine wpAnyR_take 24 rfl (by kernel_rfl) (by kernel_rfl) (by kernel_rfl) (by kernel_rfl) (fun _ _ _ h => h) (by rfl) (v := ?_) ?_ (by assumption) ?_
  rotate_left
  focus
    intro wS hSw
    (try dsimp only at hSw)
    go_simp
    (try simp only [hSw])
    (try simp only [gd0])
    (try simp only [gd9])
    (try simp only [hbo])
    (try simp only [hr2])
    (try simp only [hr3])
    try with_reducible rfl
  intro hHeld
  try simp only [Act.put, List.setIfInBounds_toArray, List.set_cons_zero, List.set_cons_succ]
  refine wpAnyR_take 25 rfl (by kernel_rfl) (by kernel_rfl) (by kernel_rfl) (by kernel_rfl) (fun _ _ _ h => h) (by rfl) (v := ?_) ?_ (by assumption) ?_
  rotate_left
  focus
    intro wS hSw
    (try dsimp only at hSw)
    go_simp
    (try simp only [hSw])
    (try simp only [gd0])
    (try simp only [gd9])
    (try simp only [hbo])
    (try simp only [hr2])
    (try simp only [hr3])
    try with_reducible rfl
  intro hHeld
  try simp only [Act.put, List.setIfInBounds_toArray, List.set_cons_zero, List.set_cons_succ]
  refine wpAnyR_take 26 rfl (by kernel_rfl) (by kernel_rfl) (by kernel_rfl) (by kernel_rfl) (fun _ _ _ h => h) (by rfl) (v := ?_) ?_ (by assumption) ?_
  rotate_left
  focus
    intro wS hSw
    (try dsimp only at hSw)
    go_simp
    (try simp only [hSw])
    (try simp only [gd0])
    (try simp only [gd9])
    (try simp only [hbo])
    (try simp only [hr2])
    (try simp only [hr3])
    try with_reducible rfl
  intro hHeld
  try simp only [Act.put, List.setIfInBounds_toArray, List.set_cons_zero, List.set_cons_succ]
  refine wpAnyR_step 27 rfl (by kernel_rfl) (fun K hK => ?_)
  go_simp
  go_at_call 38
  refine (HH.out _ (HBW.out _ HB.out)).mono ?_
  rintro e w3 ⟨rfl, hb3⟩
  have HB' := Lib.hid (HB.out.trans (hb3.mono HB.out.size))
  clear HB hb3
  have HB := HB'
  clear HB'
  go_wp2_with fail
  refine hK.out _ _ (HEL.out _ HB.out) (fun hHeld => ?_)
  clear hK K
  try simp only [Act.put, List.setIfInBounds_toArray, List.set_cons_zero, List.set_cons_succ]
  refine wpAnyR_take 28 rfl (by kernel_rfl) (by kernel_rfl) (by kernel_rfl) (by kernel_rfl) (fun _ _ _ h => h) (by rfl) (v := ?_) ?_ (by assumption) ?_
  rotate_left
  focus
    intro wS hSw
    (try dsimp only at hSw)
    go_simp
    (try simp only [hSw])
    (try simp only [gd0])
    (try simp only [gd9])
    (try simp only [hbo])
    (try simp only [hr2])
    (try simp only [hr3])
    try with_reducible rfl
  intro hHeld
  try simp only [Act.put, List.setIfInBounds_toArray, List.set_cons_zero, List.set_cons_succ]
  refine wpAnyR_take 29 rfl (by kernel_rfl) (by kernel_rfl) (by kernel_rfl) (by kernel_rfl) (fun _ _ _ h => h) (by rfl) (v := ?_) ?_ (by assumption) ?_
  rotate_left
  focus
    intro wS hSw
    (try dsimp only at hSw)
    go_simp
    (try simp only [hSw])
    (try simp only [gd0])
    (try simp only [gd9])
    (try simp only [hbo])
    (try simp only [hr2])
    (try simp only [hr3])
    try with_reducible rfl
  intro hHeld
  try simp only [Act.put, List.setIfInBounds_toArray, List.set_cons_zero, List.set_cons_succ]
  refine wpAnyR_done (by kernel_rfl) ?_
  refine NoPanic.normal ?_
  go_wp2_with fail
  go_ret
  exact ⟨⟨_, rfl, HR.out⟩, HBW.out _ HB.out⟩
end
end Go.Proofs.YtliieeagbpmcgaaDoor
