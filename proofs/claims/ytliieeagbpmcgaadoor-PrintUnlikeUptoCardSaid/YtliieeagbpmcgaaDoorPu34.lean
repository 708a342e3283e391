/- Contracts of functions that the law calls, and what they lean on (a part). -/
import Derived.Lib.Bytealg
import Derived.Test.YtliieeagbpmcgaaDoorPu33
namespace Go.Proofs.YtliieeagbpmcgaaDoor
section
open Go.RowKit Go.Sort
set_option linter.unusedVariables false
set_option maxRecDepth 100000
theorem betweenC (n a b : Int) (w : World) : Calls Tryd.prog 45 #[.int .i64 n, .int .i64 a, .int .i64 b] w fun e w' => e = .returned (.bool (decide (a ≤ n ∧ n ≤ b))) ∧ w = w' := by
  by_cases h1 : a ≤ n
  · by_cases h2 : n ≤ b
    · rw [decide_eq_true ⟨h1, h2⟩]
      go_enter Tryd.func45, Tryd.ntmps45
      go_wp2
      go_ret
      exact ⟨rfl, rfl⟩
    · rw [decide_eq_false (fun h => h2 h.2)]
      go_enter Tryd.func45, Tryd.ntmps45
      go_wp2
      go_ret
      exact ⟨rfl, rfl⟩
  · rw [decide_eq_false (fun h => h1 h.1)]
    go_enter Tryd.func45, Tryd.ntmps45
    go_wp2
    go_ret
    exact ⟨rfl, rfl⟩
theorem pStmC (k : Int) (c1 c2 c3 c4 : Value) (w : World) : Calls Tryd.prog 48 #[.agg #[.int .i64 k, c1, c2, c3, c4]] w fun e w' => e = .returned (.bool (decide (k = 8))) ∧ Below w.heap.size w w' := by
  obtain ⟨K, hK⟩ : ∃ K, decide (k = 8) = K := ⟨_, rfl⟩
  have hb : (k == 8) = K := by rw [← hK]; rfl
  have HB : Hid (Below w.heap.size w (w.alloc (.cells #[.int .i64 k, c1, c2, c3, c4] 26))) := Lib.hid ((Below.refl _ _).alloc (Nat.le_refl _) _)
  rw [hK]
  clear hK
  go_enter Tryd.func48, Tryd.ntmps48
  go_wp2
  go_ret
  exact ⟨rfl, HB.out⟩
theorem layerC (k : Int) (c1 c2 c3 c4 : Value) (w : World) : Calls Tryd.prog 21 #[.agg #[.int .i64 k, c1, c2, c3, c4]] w fun e w' => e = .returned (.int .i64 (if k = 6 ∨ k = 7 ∨ k = 8 then 1 else 0)) ∧ Below w.heap.size w w' := by
  have HB : Hid (Below w.heap.size w (w.alloc (.cells #[.int .i64 k, c1, c2, c3, c4] 26))) := Lib.hid ((Below.refl _ _).alloc (Nat.le_refl _) _)
  have hu : usesZ k = 0 ∨ usesZ k = 1 ∨ usesZ k = 2 ∨ usesZ k = 4 ∨ usesZ k = 8 ∨ usesZ k = 10 := by
    unfold usesZ
    by_cases a1 : k = 1 ∨ k = 2 ∨ k = 3 ∨ k = 9
    · rw [if_pos a1]; omega
    · rw [if_neg a1]
      by_cases a2 : k = 4 ∨ k = 5
      · rw [if_pos a2]; omega
      · rw [if_neg a2]
        by_cases a3 : k = 6
        · rw [if_pos a3]; omega
        · rw [if_neg a3]
          by_cases a4 : k = 7
          · rw [if_pos a4]; omega
          · rw [if_neg a4]
            by_cases a5 : k = 8
            · rw [if_pos a5]; omega
            · rw [if_neg a5]; omega
  have hi : (k = 6 ∨ k = 7 ∨ k = 8) ↔ (usesZ k = 4 ∨ usesZ k = 8 ∨ usesZ k = 10) := by
    unfold usesZ
    by_cases a1 : k = 1 ∨ k = 2 ∨ k = 3 ∨ k = 9
    · rw [if_pos a1]; omega
    · rw [if_neg a1]
      by_cases a2 : k = 4 ∨ k = 5
      · rw [if_pos a2]; omega
      · rw [if_neg a2]
        by_cases a3 : k = 6
        · rw [if_pos a3]; omega
        · rw [if_neg a3]
          by_cases a4 : k = 7
          · rw [if_pos a4]; omega
          · rw [if_neg a4]
            by_cases a5 : k = 8
            · rw [if_pos a5]; omega
            · rw [if_neg a5]; omega
  obtain ⟨U, hU⟩ : ∃ U, usesZ k = U := ⟨_, rfl⟩
  rw [hU] at hu
  simp only [hi, hU]
  clear hi
  have HU := Lib.hid hU
  clear hU
  rcases hu with rfl | rfl | rfl | rfl | rfl | rfl
  all_goals
    go_enter Tryd.func21, Tryd.ntmps21
    go_wp2_with (go_at_call 34; refine (usesC _ _).mono ?_; (rintro e w' ⟨rfl, rfl⟩); rw [HU.out])
    go_ret
    exact ⟨by rfl, HB.out⟩
/-- Which fields are not zero. -/
def fillZ (n : Int) (b l d : Nat) : Int := (if n = 0 then 0 else 1) + (if b = 0 then 0 else 2) + (if l = 0 then 0 else 4) + (if d = 0 then 0 else 8)
set_option maxHeartbeats 4000000 in
theorem filledC (k n : Int) (A2 A3 A4 : Option Addr) (m2 c2 m3 c3 m4 c4 : Nat) (w : World) : Calls Tryd.prog 35 #[.agg #[.int .i64 k, .int .i64 n, .slice A2 m2 c2, .slice A3 m3 c3, .slice A4 m4 c4]] w fun e w' => e = .returned (.int .i64 (fillZ n m2 m3 m4)) ∧ Below w.heap.size w w' := by
  have HB : Hid (Below w.heap.size w (w.alloc (.cells #[.int .i64 k, .int .i64 n, .slice A2 m2 c2, .slice A3 m3 c3, .slice A4 m4 c4] 26))) := Lib.hid ((Below.refl _ _).alloc (Nat.le_refl _) _)
  obtain ⟨F, hF⟩ : ∃ F, fillZ n m2 m3 m4 = F := ⟨_, rfl⟩
  rw [hF]
  unfold fillZ at hF
  have HF := Lib.hid hF
  clear hF
  by_cases h1 : n = 0 <;> by_cases h2 : m2 = 0 <;> by_cases h3 : m3 = 0 <;> by_cases h4 : m4 = 0
  all_goals
    have hF := HF.out
    clear HF
    simp only [h1, h2, h3, h4, if_true, if_false] at hF
    (try subst h1)
    (try subst h2)
    (try subst h3)
    (try subst h4)
    subst hF
    (try have e1 : (n == 0) = false := beq_eq_false_iff_ne.2 h1)
    (try have e2 : (m2 : Int) > 0 := by omega)
    (try have e3 : (m3 : Int) > 0 := by omega)
    (try have e4 : (m4 : Int) > 0 := by omega)
    (try clear h1)
    (try clear h2)
    (try clear h3)
    (try clear h4)
    go_enter Tryd.func35, Tryd.ntmps35
    go_wp2
    go_ret
    exact ⟨by rfl, HB.out⟩
def numB (k n : Int) : Bool := if k = 1 then decide (0 ≤ n ∧ n ≤ 1) else if k = 2 then decide (-2147483647 ≤ n ∧ n ≤ 2147483647) else if k = 3 then decide (-214748364799999 ≤ n ∧ n ≤ 214748364799999) else if k = 9 then decide (1 ≤ n ∧ n ≤ 8388607) else true
theorem numberedC (k n : Int) (c2 c3 c4 : Value) (w : World) : Calls Tryd.prog 36 #[.agg #[.int .i64 k, .int .i64 n, c2, c3, c4]] w fun e w' => e = .returned (.bool (numB k n)) ∧ Below w.heap.size w w' := by
  have HB : Hid (Below w.heap.size w (w.alloc (.cells #[.int .i64 k, .int .i64 n, c2, c3, c4] 26))) := Lib.hid ((Below.refl _ _).alloc (Nat.le_refl _) _)
  by_cases h : k = 1 ∨ k = 2 ∨ k = 3 ∨ k = 9
  · rcases h with rfl | rfl | rfl | rfl
    all_goals
      go_enter Tryd.func36, Tryd.ntmps36
      go_wp2_with (go_at_call 45; refine (betweenC _ _ _ _).mono ?_; (rintro e w' ⟨rfl, rfl⟩))
      go_ret
      exact ⟨by simp [numB], HB.out⟩
  · have e : numB k n = true := by unfold numB; rw [if_neg (by omega), if_neg (by omega), if_neg (by omega), if_neg (by omega)]
    rw [e]
    have h1 : (k == 1) = false := beq_eq_false_iff_ne.2 (by omega)
    have h2 : (k == 2) = false := beq_eq_false_iff_ne.2 (by omega)
    have h3 : (k == 3) = false := beq_eq_false_iff_ne.2 (by omega)
    have h9 : (k == 9) = false := beq_eq_false_iff_ne.2 (by omega)
    clear h e
    go_enter Tryd.func36, Tryd.ntmps36
    go_wp2
    go_ret
    exact ⟨rfl, HB.out⟩
theorem sidxC (s : ByteArray) (w : World) : Calls Tryd.prog 69 #[.string s, .int .u8 0] w fun e w' => e = .returned (.int .i64 (Lib.indexByte s.data.toList 0)) ∧ w = w' := by
  go_enter Tryd.func69, Tryd.ntmps69
  go_wp2
  rw [run_callFunc_extern Tryd.func77 (by kernel_rfl) (by kernel_rfl) (by kernel_rfl) (e := Extern.BytealgIndexByte.indexByte) (by kernel_rfl), Lib.run_indexByteString]
  simp only [Result.andThen]
  rw [Oper.upon_value]
  go_wp2
  go_ret
  exact ⟨rfl, rfl⟩
theorem idxC (s : ByteArray) (w : World) : Calls Tryd.prog 59 #[.string s, .int .u8 0] w fun e w' => e = .returned (.int .i64 (Lib.indexByte s.data.toList 0)) ∧ w = w' := by
  go_enter Tryd.func59, Tryd.ntmps59
  go_wp2_with (go_at_call 69; refine (sidxC _ _).mono ?_; (rintro e w' ⟨rfl, rfl⟩))
  go_ret
  exact ⟨rfl, rfl⟩
theorem idx_neg : ∀ l : List UInt8, (Lib.indexByte l 0 < 0) ↔ ∀ b ∈ l, b ≠ 0
  | [] => by simp [Lib.indexByte]
  | b :: l => by
    unfold Lib.indexByte
    have ih := idx_neg l
    have hg := Lib.indexByte_ge l 0
    by_cases hb : b = 0
    · subst hb; simp
    · have e : (b == 0) = false := beq_eq_false_iff_ne.2 hb
      rw [e]
      simp only [Bool.false_eq_true, if_false, List.mem_cons, forall_eq_or_imp, hb, ne_eq, not_false_eq_true, true_and]
      rw [← ih]
      by_cases h : Lib.indexByte l 0 = -1
      · rw [h]; simp
      · rw [if_neg (by simpa using h)]; omega
theorem nameS_iff (s : ByteArray) : nameS s = true ↔ s.size ≤ 127 ∧ Lib.indexByte s.data.toList 0 < 0 := by
  unfold nameS nameZ
  rw [strZ_len, idx_neg]
  split
  · rename_i h; constructor
    · intro h2; cases h2
    · intro h2; omega
  · rename_i h
    rw [List.all_eq_true]
    constructor
    · intro h2
      refine ⟨by omega, fun b hb e => ?_⟩
      have := h2 ((b.toNat : Int)) (List.mem_map.2 ⟨b, hb, rfl⟩)
      subst e
      simp at this
    · rintro ⟨-, h2⟩ z hz
      obtain ⟨b, hb, rfl⟩ := List.mem_map.1 hz
      have := h2 b hb
      refine decide_eq_true (fun e => this ?_)
      apply UInt8.toNat_inj.1
      have e2 : b.toNat = 0 := by exact_mod_cast e
      rw [e2]; rfl
theorem namedC (s : ByteArray) (w : World) : Calls Tryd.prog 46 #[.string s] w fun e w' => e = .returned (.bool (nameS s)) ∧ w = w' := by
  obtain ⟨R, hR⟩ : ∃ R, nameS s = R := ⟨_, rfl⟩
  obtain ⟨z, hz⟩ : ∃ z, Lib.indexByte s.data.toList 0 = z := ⟨_, rfl⟩
  have hi := nameS_iff s
  rw [hR, hz] at hi
  have HZ := Lib.hid hz
  rw [hR]
  clear hR hz
  by_cases h1 : 127 < s.size
  · have e : (s.size : Int) > 127 := by omega
    have e2 : ¬ (s.size : Int) ≤ 127 := by omega
    have : R = false := by cases R; rfl; have := hi.1 rfl; omega
    subst this
    clear hi h1
    go_enter Tryd.func46, Tryd.ntmps46
    go_wp2
    go_ret
    exact ⟨rfl, rfl⟩
  · have e2 : (s.size : Int) ≤ 127 := by omega
    by_cases h2 : z < 0
    · have : R = true := hi.2 ⟨by omega, h2⟩
      subst this
      clear hi h1
      go_enter Tryd.func46, Tryd.ntmps46
      go_wp2_with (go_at_call 59; refine (idxC _ _).mono ?_; (rintro e w' ⟨rfl, rfl⟩); rw [HZ.out])
      go_ret
      exact ⟨rfl, rfl⟩
    · have : R = false := by cases R; rfl; exact absurd (hi.1 rfl).2 h2
      subst this
      clear hi h1
      go_enter Tryd.func46, Tryd.ntmps46
      go_wp2_with (go_at_call 59; refine (idxC _ _).mono ?_; (rintro e w' ⟨rfl, rfl⟩); rw [HZ.out])
      go_ret
      exact ⟨by simp [h2], rfl⟩
/-- An entry that may not be. -/
def wrongB (s : ByteArray) (k : Int) : Bool := !(nameS s) || (nullB k || decide (k = 8))
set_option maxHeartbeats 2000000 in
theorem wrongC (s : ByteArray) (k : Int) (c1 c2 c3 c4 : Value) (w : World) : Calls Tryd.prog 50 #[.agg #[.string s, .int .i64 k, c1, c2, c3, c4]] w fun e w' => e = .returned (.bool (wrongB s k)) ∧ Below w.heap.size w w' := by
  have HB : Hid (Below w.heap.size w (w.alloc (.cells #[.string s, .int .i64 k, c1, c2, c3, c4] 36))) := Lib.hid ((Below.refl _ _).alloc (Nat.le_refl _) _)
  have hcs : ∀ W, Below (w.heap.size + 1) (w.alloc (.cells #[.string s, .int .i64 k, c1, c2, c3, c4] 36)) W → W.cell? ⟨w.heap.size, 0, none⟩ = some (.string s) ∧ W.cell? ⟨w.heap.size, 1, none⟩ = some (.int .i64 k) ∧ W.cell? ⟨w.heap.size, 2, none⟩ = some c1 ∧ W.cell? ⟨w.heap.size, 3, none⟩ = some c2 ∧ W.cell? ⟨w.heap.size, 4, none⟩ = some c3 ∧ W.cell? ⟨w.heap.size, 5, none⟩ = some c4 := fun W hW => by
    have h := (hW.block w.heap.size (by omega)).trans (heap_alloc_new w _)
    exact ⟨cell_of_row _ _ 0 _ _ (0, 0) h, cell_of_row _ _ 1 _ _ (0, 0) h, cell_of_row _ _ 2 _ _ (0, 0) h, cell_of_row _ _ 3 _ _ (0, 0) h, cell_of_row _ _ 4 _ _ (0, 0) h, cell_of_row _ _ 5 _ _ (0, 0) h⟩
  obtain ⟨W1, hW1⟩ : ∃ W1, w.alloc (.cells #[.string s, .int .i64 k, c1, c2, c3, c4] 36) = W1 := ⟨_, rfl⟩
  have hs1 : W1.heap.size = w.heap.size + 1 := by rw [← hW1]; simp
  rw [hW1, ← hs1] at hcs
  rw [hW1] at HB
  have HCS := Lib.hid hcs
  have HW1 := Lib.hid hW1
  have HS1 := Lib.hid hs1
  obtain ⟨NM, hNM⟩ : ∃ NM, nameS s = NM := ⟨_, rfl⟩
  obtain ⟨NU, hNU⟩ : ∃ NU, nullB k = NU := ⟨_, rfl⟩
  obtain ⟨KS, hKS⟩ : ∃ KS, decide (k = 8) = KS := ⟨_, rfl⟩
  have HNM := Lib.hid hNM
  have HNU := Lib.hid hNU
  have HKS := Lib.hid hKS
  unfold wrongB
  rw [hNM, hNU, hKS]
  clear hNM hNU hKS hcs hW1 hs1
  have HB1 : Hid (Below W1.heap.size W1 W1) := Lib.hid (Below.refl _ _)
  obtain ⟨q0, q1, q2, q3, q4, q5⟩ := HCS.out _ HB1.out
  cases NM
  · go_enter Tryd.func50, Tryd.ntmps50
    go_upto_region 1 with fail
    rw [HW1.out]
    go_wp2_with (go_at_call 46; refine (namedC _ _).mono ?_; (rintro e w' ⟨rfl, rfl⟩); rw [HNM.out])
    go_ret
    exact ⟨rfl, HB.out⟩
  cases NU
  · cases KS
    all_goals
      go_enter Tryd.func50, Tryd.ntmps50
      go_upto_region 1 with fail
      rw [HW1.out]
      go_wp2_with (first
        | (go_at_call 46; refine (namedC _ _).mono ?_; (rintro e w' ⟨rfl, rfl⟩); rw [HNM.out])
        | (go_at_call 62; refine (nullC _ _ _ _ _ _).mono ?_; (rintro e w2 ⟨rfl, hg2⟩); rw [HNU.out]; have HB2 := Lib.hid (HB1.out.trans ((Grw.below hg2).mono HB1.out.size)); clear hg2 q0 q1 q2 q3 q4 q5; (obtain ⟨q0, q1, q2, q3, q4, q5⟩ := HCS.out _ HB2.out))
        | (go_at_call 48; refine (pStmC _ _ _ _ _ _).mono ?_; (rintro e w3 ⟨rfl, hb3⟩); rw [HKS.out]; have HB3 := Lib.hid (HB2.out.trans (hb3.mono HB2.out.size)); clear hb3))
      go_ret
      exact ⟨rfl, HB.out.trans (HB3.out.mono (by have := HS1.out; omega))⟩
  · go_enter Tryd.func50, Tryd.ntmps50
    go_upto_region 1 with fail
    rw [HW1.out]
    go_wp2_with (first
      | (go_at_call 46; refine (namedC _ _).mono ?_; (rintro e w' ⟨rfl, rfl⟩); rw [HNM.out])
      | (go_at_call 62; refine (nullC _ _ _ _ _ _).mono ?_; (rintro e w2 ⟨rfl, hg2⟩); rw [HNU.out]; have HB2 := Lib.hid (HB1.out.trans ((Grw.below hg2).mono HB1.out.size)); clear hg2))
    go_ret
    exact ⟨rfl, HB.out.trans (HB2.out.mono (by have := HS1.out; omega))⟩
end
end Go.Proofs.YtliieeagbpmcgaaDoor
