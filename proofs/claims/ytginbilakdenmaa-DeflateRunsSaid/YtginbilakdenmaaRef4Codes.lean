/- The document's own codes (chapter 4): codes. -/
import Derived.Test.YtginbilakdenmaaRef4Code
import Derived.Laws.MakeOwn
import Derived.Laws.OwnMore
import Derived.OwnWalk
namespace Go.Proofs.Ytginbilakdenmaa
open Go.RowKit
set_option linter.unusedVariables false
set_option maxRecDepth 100000

/-- A row of numbers that the call made: block g. -/
def IRow (w : World) (g : Nat) (xs : List Int) : Prop := w.heap[g]? = some (.cells ((xs.map (Value.int .i64)).toArray) 3 (0, 0))
section
variable {w w' : World} {g : Nat} {xs : List Int}
theorem IRow.lt (h : IRow w g xs) : g < w.heap.size := by
  rcases Nat.lt_or_ge g w.heap.size with hlt | hge
  · exact hlt
  · unfold IRow at h; rw [Array.getElem?_eq_none hge] at h; cases h
theorem IRow.cell (h : IRow w g xs) (i : Nat) (hi : i < xs.length) : w.cell? ⟨g, i, none⟩ = some (.int .i64 (xs.getD i 0)) := by
  rw [cell_of_row w g i _ 3 (0, 0) h]
  simp [List.getD, hi]
theorem IRow.fr (h : IRow w g xs) (i : Nat) : w.frozen? ⟨g, i, none⟩ = false := by
  unfold IRow at h
  simp [World.frozen?, h]
theorem IRow.drewN (h : IRow w g xs) (k : Nat) : IRow (w.drewN k) g xs := h
theorem IRow.put (h : IRow w g xs) (i : Nat) (z : Int) : IRow (w.setCell ⟨g, i, none⟩ (.int .i64 z)) g (xs.set i z) := by
  unfold IRow at h ⊢
  simp [World.setCell, Array.getElem?_modify, h, List.map_set]
theorem IRow.below {B : Nat} (h : IRow w g xs) (hb : Below B w w') (hg : g < B) : IRow w' g xs := (hb.block g hg).trans h
theorem IRow.nums (h : IRow w g xs) {n : Nat} (hn : xs.length = n) : Nums w w.heap.size (some ⟨g, 0, none⟩) n n xs :=
  ⟨hn, Nat.le_refl _, fun h0 => ⟨g, 0, rfl, h.lt, fun i hi => by rw [Nat.zero_add]; exact h.cell i (by omega)⟩⟩
end

/-- How many of the first k are L; the first code of a length. -/
def cntN (l : List Int) (L : Int) : Nat → Int
  | 0 => 0
  | k + 1 => cntN l L k + (if l.getD k 0 = L then 1 else 0)
def firstC (l : List Int) : Nat → Int
  | 0 => 0
  | L + 1 => 2 * (firstC l L + (if L = 0 then 0 else cntN l L l.length))
theorem cntN_bd (l : List Int) (L : Int) : ∀ k, 0 ≤ cntN l L k ∧ cntN l L k ≤ k
  | 0 => by simp [cntN]
  | k + 1 => by have h1 := cntN_bd l L k; rw [cntN]; split <;> omega
theorem firstC_bd (l : List Int) (h : l.length ≤ 1000) : ∀ L, 0 ≤ firstC l L ∧ firstC l L + 2000 ≤ 2000 * 2 ^ L
  | 0 => by simp [firstC]
  | L + 1 => by
    have h1 := firstC_bd l h L
    have h2 := cntN_bd l L l.length
    have e : (2 : Int) ^ (L + 1) = 2 ^ L * 2 := Int.pow_succ 2 L
    rw [firstC, e]
    split <;> omega
/-- The code of each symbol, of lengths below L, and of the length L itself for the first k. -/
def codeAt (l : List Int) (i : Nat) : Int := firstC l (l.getD i 0).toNat + cntN l (l.getD i 0) i
def codesN (l : List Int) (L : Int) (k : Nat) : List Int := (List.range l.length).map fun i => if 1 ≤ l.getD i 0 ∧ (l.getD i 0 < L ∨ (l.getD i 0 = L ∧ i < k)) then codeAt l i else 0
def codesS (l : List Int) : List Int := codesN l 16 0
theorem codesN_len (l : List Int) (L : Int) (k : Nat) : (codesN l L k).length = l.length := by simp [codesN]
theorem codesN_next (l : List Int) (L : Nat) (hL : 1 ≤ L) : codesN l L l.length = codesN l (L + 1 : Nat) 0 := by
  unfold codesN
  refine List.map_congr_left fun i hi => ?_
  have hi' := List.mem_range.1 hi
  have e : (1 ≤ l.getD i 0 ∧ (l.getD i 0 < (L : Int) ∨ (l.getD i 0 = (L : Int) ∧ i < l.length))) ↔ (1 ≤ l.getD i 0 ∧ (l.getD i 0 < ((L + 1 : Nat) : Int) ∨ (l.getD i 0 = ((L + 1 : Nat) : Int) ∧ i < 0))) := by
    constructor
    · rintro ⟨h1, h2⟩; exact ⟨h1, by omega⟩
    · rintro ⟨h1, h2⟩; exact ⟨h1, by omega⟩
  simp only [e]
theorem codesN_set (l : List Int) (L : Nat) (hL : 1 ≤ L) (k : Nat) (hk : k < l.length) (h : l.getD k 0 = L) : codesN l L (k + 1) = (codesN l L k).set k (firstC l L + cntN l L k) := by
  refine List.ext_getElem (by simp [codesN]) fun i h1 h2 => ?_
  have hi : i < l.length := by simpa [codesN] using h1
  rw [List.getElem_set]
  simp only [codesN, List.getElem_map, List.getElem_range]
  by_cases hik : k = i
  · subst hik
    rw [if_pos rfl, if_pos ⟨by omega, .inr ⟨h, by omega⟩⟩]
    unfold codeAt
    rw [h]
    rfl
  · rw [if_neg hik]
    have e : (1 ≤ l.getD i 0 ∧ (l.getD i 0 < (L : Int) ∨ (l.getD i 0 = (L : Int) ∧ i < k + 1))) ↔ (1 ≤ l.getD i 0 ∧ (l.getD i 0 < (L : Int) ∨ (l.getD i 0 = (L : Int) ∧ i < k))) := by
      constructor
      · rintro ⟨h1, h2⟩; exact ⟨h1, by omega⟩
      · rintro ⟨h1, h2⟩; exact ⟨h1, by omega⟩
    simp only [e]
theorem codesN_keep (l : List Int) (L : Nat) (k : Nat) (h : l.getD k 0 ≠ L) : codesN l L (k + 1) = codesN l L k := by
  unfold codesN
  refine List.map_congr_left fun i hi => ?_
  have e : (1 ≤ l.getD i 0 ∧ (l.getD i 0 < (L : Int) ∨ (l.getD i 0 = (L : Int) ∧ i < k + 1))) ↔ (1 ≤ l.getD i 0 ∧ (l.getD i 0 < (L : Int) ∨ (l.getD i 0 = (L : Int) ∧ i < k))) := by
    constructor
    · rintro ⟨h1, h2⟩
      refine ⟨h1, ?_⟩
      rcases h2 with h2 | ⟨h2, h3⟩
      · exact .inl h2
      · refine .inr ⟨h2, ?_⟩
        rcases Nat.lt_or_ge i k with h4 | h4
        · exact h4
        · have : i = k := by omega
          subst this
          exact absurd h2 h
    · rintro ⟨h1, h2⟩; exact ⟨h1, by omega⟩
  simp only [e]
theorem codesN_start (l : List Int) : codesN l (1 : Nat) 0 = List.replicate l.length 0 := by
  refine List.ext_getElem (by simp [codesN]) fun i h1 h2 => ?_
  simp only [codesN, List.getElem_map, List.getElem_range, List.getElem_replicate]
  rw [if_neg (by omega)]

theorem infoInt : (Try.prog.info? 3).map (fun i => (i.zero, i.size, i.bytes)) = some (some (.int .i64 0), 1, 8) := by kernel_rfl
/-- 'make([]int, n)'. -/
theorem make_ints (n : Nat) (w : World) (hn : n ≤ 1000000) : ∃ W1, (Instr.makeSlice 61 (.int .i64 (n : Int)) (.int .i64 (n : Int))).run Try.prog w = .ok (.slice (some ⟨w.heap.size, 0, none⟩) n n) W1 ∧ IRow W1 w.heap.size (List.replicate n 0) ∧ Below w.heap.size w W1 ∧ w.heap.size < W1.heap.size := by
  obtain ⟨i0, hi, hz0, hz1, hz2⟩ := info_parts infoInt
  have h := run_makeSlice (P := Try.prog) w 61 3 i0 _ Try.underlying61 hi hz0 .i64 .i64 (n : Int) (n : Int) (by omega) (by omega) (by rw [hz1]; omega) (by rw [hz2]; omega) (by omega)
  have hc : madeCells (Value.int .i64 0).cells (((n : Int)).toNat * i0.size) = (((List.replicate n (0 : Int)).map (Value.int .i64)).toArray) := by
    have e := toList_madeCells_one (.int .i64 0) n
    rw [hz1, Nat.mul_one, Int.toNat_natCast]
    apply Array.toList_inj.1
    rw [show (Value.int .i64 0).cells = #[Value.int .i64 0] from rfl, e]
    simp
  rw [hc] at h
  rw [Int.toNat_natCast] at h
  exact ⟨_, h, heap_alloc_new w _, (Below.refl _ _).alloc (Nat.le_refl _) _, by simp⟩

set_option maxRecDepth 100000 in
set_option maxHeartbeats 1000000 in
theorem codesC (A : Option Addr) (n c B : Nat) (l : List Int) (w : World) (hl : Nums w B A n c l) (hB : B ≤ w.heap.size) (hn : n ≤ 1000) :
    Calls Try.prog 36 #[.slice A n c] w fun e w' => e = .returned (.slice (some ⟨w.heap.size, 0, none⟩) n n) ∧ IRow w' w.heap.size (codesS l) ∧ Below w.heap.size w w' := by
  obtain ⟨W1, hmk, hir, hbe, hsz⟩ := make_ints n w (by omega)
  have HL := Lib.hid hl
  have HLB := Lib.hid (fun W (hW : Below w.heap.size w W) => hl.below hW hB)
  have hlen : l.length = n := hl.len
  have HF := Lib.hid (firstC_bd l (by omega))
  have HC := Lib.hid (cntN_bd l)
  have HIR : Hid (IRow W1 w.heap.size (codesN l (1 : Nat) 0)) := Lib.hid (by rw [codesN_start, hlen]; exact hir)
  have HBE := Lib.hid hbe
  have HLEN := Lib.hid hlen
  clear hl hir hbe hlen
  go_enter Try.func36, Try.ntmps36
  go_wp2
  go_loopw [4, 5] (fun nx L wr => ∃ K : Nat, 1 ≤ K ∧ K ≤ 16 ∧ L = .int .i64 K ∧ nx = .int .i64 (firstC l (K - 1) + (if K = 1 then 0 else cntN l ((K - 1 : Nat) : Int) n)) ∧ Hid (IRow wr w.heap.size (codesN l K 0)) ∧ Hid (Below w.heap.size w wr)) (fun _ L _ => 16 - (intOf L).toNat)
  case atStart => exact ⟨1, by omega, by omega, rfl, rfl, HIR, HBE⟩
  case round =>
    obtain ⟨K, hK1, hK, rfl, rfl, hrow, hbel⟩ := hrel
    by_cases hK15 : K ≤ 15
    · have hfst : firstC l K = 2 * (firstC l (K - 1) + (if K = 1 then 0 else cntN l ((K - 1 : Nat) : Int) n)) := by
        obtain ⟨J, rfl⟩ : ∃ J, K = J + 1 := ⟨K - 1, by omega⟩
        rw [firstC, HLEN.out, Nat.add_sub_cancel]
        by_cases hJ : J = 0
        · rw [if_pos hJ, if_pos (by omega)]
        · rw [if_neg hJ, if_neg (by omega)]
      have hfb := HF.out K
      have hp15 := pow_le16 K (by omega)
      obtain ⟨N0, hN0⟩ : ∃ N0, firstC l (K - 1) + (if K = 1 then 0 else cntN l ((K - 1 : Nat) : Int) n) = N0 := ⟨_, rfl⟩
      rw [hN0] at hfst ⊢
      have e1 : IntKind.i64.wrap (N0 * 2) = firstC l K := by rw [hfst, Int.mul_comm]; exact IntWalk.i64_in _ (by omega)
      obtain ⟨F, hF⟩ : ∃ F, firstC l K = F := ⟨_, rfl⟩
      rw [hF] at e1 hfb hfst
      have HFF := Lib.hid hF
      have HROW := Lib.hid hrow.out
      have HBEL := Lib.hid hbel.out
      clear hN0 hF hrow hbel
      have HF0 : Hid (firstC l K = F + cntN l (K : Int) 0) := Lib.hid (by rw [HFF.out]; show F = F + 0; omega)
      clear hfst
      go_wp2
      go_loopw [4, 6] (fun nx i ws => ∃ j : Nat, j ≤ n ∧ i = .int .i64 j ∧ nx = .int .i64 (F + cntN l (K : Int) j) ∧ Hid (IRow ws w.heap.size (codesN l (K : Nat) j)) ∧ Hid (Below w.heap.size w ws)) (fun _ i _ => n - (intOf i).toNat)
      case atStart => exact ⟨0, Nat.zero_le _, rfl, int_eq (by rw [← HF0.out, HFF.out]), HROW.out, HBEL.out⟩
      case round =>
        obtain ⟨j, hj, rfl, rfl, hrow2, hbel2⟩ := hrel
        have hcb := HC.out (K : Int) j
        by_cases hlt : j < n
        · obtain ⟨b, o, rfl, _, hc⟩ := (HLB.out _ hbel2.out).cell (by omega)
          have ck := hc j hlt
          have hstep : cntN l (K : Int) (j + 1) = cntN l (K : Int) j + (if l.getD j 0 = (K : Int) then 1 else 0) := rfl
          have hset := codesN_set l K hK1 j (by rw [HLEN.out]; exact hlt)
          have hkeep := codesN_keep l K j
          have hrl : (codesN l (K : Nat) j).length = n := by rw [codesN_len, HLEN.out]
          have ho := hrow2.out.cell j (by omega)
          have hf := hrow2.out.fr j
          obtain ⟨x, hx⟩ : ∃ x, l.getD j 0 = x := ⟨_, rfl⟩
          rw [hx] at ck hstep hset hkeep
          obtain ⟨C, hC⟩ : ∃ C, cntN l (K : Int) j = C := ⟨_, rfl⟩
          rw [hC] at hstep hset hcb ⊢
          have HROW2 := Lib.hid hrow2.out
          have HBEL2 := Lib.hid hbel2.out
          clear hc hx hC hrow2 hbel2
          by_cases hxK : x = K
          · subst hxK
            rw [if_pos rfl] at hstep
            have HSTEP := Lib.hid hstep
            have HSET := Lib.hid (hset rfl)
            clear hstep hset hkeep
            go_wp2
            go_roundw
            case rel => exact ⟨j + 1, by omega, by go_num, int_eq (by rw [HSTEP.out]; omega), Lib.hid (by rw [HSET.out, HFF.out]; exact HROW2.out.put j _), Lib.hid (HBEL2.out.setCell (Nat.le_refl _) _)⟩
            case measure => simp [intOf]; omega
          · rw [if_neg hxK] at hstep
            have hxb : (x == (K : Int)) = false := beq_eq_false_iff_ne.2 hxK
            have HSTEP := Lib.hid hstep
            have HKEEP := Lib.hid (hkeep hxK)
            clear hstep hset hkeep hxK
            go_wp2
            go_roundw
            case rel => exact ⟨j + 1, by omega, by go_num, int_eq (by rw [HSTEP.out]; omega), Lib.hid (by rw [HKEEP.out]; exact HROW2.out), HBEL2⟩
            case measure => simp [intOf]; omega
        · obtain rfl : j = n := by omega
          have HROW2 := Lib.hid hrow2.out
          have HBEL2 := Lib.hid hbel2.out
          have HNEXT : Hid (codesN l (K : Nat) j = codesN l ((K + 1 : Nat) : Int) 0) := Lib.hid (by rw [← HLEN.out]; exact codesN_next l K hK1)
          have HFK : Hid (F + cntN l (K : Int) j = firstC l (K + 1 - 1) + (if K + 1 = 1 then 0 else cntN l ((K + 1 - 1 : Nat) : Int) j)) := Lib.hid (by rw [Nat.add_sub_cancel, HFF.out, if_neg (by omega)])
          obtain ⟨V, hV⟩ : ∃ V, F + cntN l (K : Int) j = V := ⟨_, rfl⟩
          rw [hV] at HFK ⊢
          clear hV hrow2 hbel2
          go_wp2
          go_roundw
          case rel => exact ⟨K + 1, by omega, by omega, by go_num, int_eq HFK.out, Lib.hid (by rw [← HNEXT.out]; exact HROW2.out), HBEL2⟩
          case measure => simp [intOf]; omega
    · obtain rfl : K = 16 := by omega
      have HROW := Lib.hid hrow.out
      have HBEL := Lib.hid hbel.out
      clear hrow hbel
      go_wp2
      go_ret
      exact ⟨rfl, HROW.out, HBEL.out⟩
end Go.Proofs.Ytginbilakdenmaa
