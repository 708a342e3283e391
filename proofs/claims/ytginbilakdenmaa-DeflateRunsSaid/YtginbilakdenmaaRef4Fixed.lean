/- The document's own flow (chapter 4): fixed. -/
import Derived.Test.YtginbilakdenmaaRef4Stored
namespace Go.Proofs.Ytginbilakdenmaa
open Go.RowKit
set_option linter.unusedVariables false
set_option maxRecDepth 100000

/-- 'make(code, n)'. -/
def zeroC (n : Nat) : Array Value := ((List.replicate n (0 : Int)).map (Value.int .i64)).toArray
theorem make_code (n : Nat) (w : World) (hn : n ≤ 1000000) : (Instr.makeSlice 62 (.int .i64 (n : Int)) (.int .i64 (n : Int))).run Try.prog w = .ok (.slice (some ⟨w.heap.size, 0, none⟩) n n) (w.alloc (.cells (zeroC n) 3)) := by
  obtain ⟨i0, hi, hz0, hz1, hz2⟩ := info_parts infoInt
  have h := run_makeSlice (P := Try.prog) w 62 3 i0 _ Try.underlying62 hi hz0 .i64 .i64 (n : Int) (n : Int) (by omega) (by omega) (by rw [hz1]; omega) (by rw [hz2]; omega) (by omega)
  have hc : madeCells (Value.int .i64 0).cells (((n : Int)).toNat * i0.size) = zeroC n := by
    have e := toList_madeCells_one (.int .i64 0) n
    rw [hz1, Nat.mul_one, Int.toNat_natCast]
    apply Array.toList_inj.1
    unfold zeroC
    rw [show (Value.int .i64 0).cells = #[Value.int .i64 0] from rfl, e]
    simp
  rw [hc] at h
  rw [Int.toNat_natCast] at h
  exact h
def fixL (i : Nat) : Int := if i ≤ 143 then 8 else if i ≤ 255 then 9 else if i ≤ 279 then 7 else 8
def fixLN (k : Nat) : List Int := (List.range 288).map fun i => if i < k then fixL i else 0
def fixDN (k : Nat) : List Int := (List.range 32).map fun i => if i < k then 5 else 0
def fixLs : List Int := fixLN 288
def fixDs : List Int := fixDN 32
theorem fixLN_set (k : Nat) (hk : k < 288) (x : Int) (hx : x = fixL k) : (fixLN k).set k x = fixLN (k + 1) := by
  subst hx
  refine List.ext_getElem (by simp [fixLN]) fun i h1 h2 => ?_
  rw [List.getElem_set]
  simp only [fixLN, List.getElem_map, List.getElem_range]
  by_cases h : k = i
  · subst h; rw [if_pos rfl, if_pos (by omega)]
  · rw [if_neg h]
    by_cases h2 : i < k
    · rw [if_pos h2, if_pos (by omega)]
    · rw [if_neg h2, if_neg (by omega)]
theorem fixDN_set (k : Nat) (hk : k < 32) : (fixDN k).set k 5 = fixDN (k + 1) := by
  refine List.ext_getElem (by simp [fixDN]) fun i h1 h2 => ?_
  rw [List.getElem_set]
  simp only [fixDN, List.getElem_map, List.getElem_range]
  by_cases h : k = i
  · subst h; rw [if_pos rfl, if_pos (by omega)]
  · rw [if_neg h]
    by_cases h2 : i < k
    · rw [if_pos h2, if_pos (by omega)]
    · rw [if_neg h2, if_neg (by omega)]
theorem fixLN_len (k : Nat) : (fixLN k).length = 288 := by simp [fixLN]
theorem fixDN_len (k : Nat) : (fixDN k).length = 32 := by simp [fixDN]
theorem zeroC_row (w : World) (n : Nat) : IRow (w.alloc (.cells (zeroC n) 3)) w.heap.size (List.replicate n 0) := heap_alloc_new w _
theorem IRow.set_ne {w : World} {g b : Nat} {xs : List Int} (h : IRow w g xs) (hne : g ≠ b) (i : Nat) (z : Value) : IRow (w.setCell ⟨b, i, none⟩ z) g xs := (Below.heap_setCell w ⟨b, i, none⟩ z g hne).trans h

theorem fixL_put {w : World} {b k : Nat} (h : IRow w b (fixLN k)) (hk : k < 288) (x : Int) (hx : x = fixL k) : IRow (w.setCell ⟨b, k, none⟩ (.int .i64 x)) b (fixLN (k + 1)) := by
  rw [← fixLN_set k hk x hx]; exact h.put k x
theorem fixLN_zero : fixLN 0 = List.replicate 288 0 := by decide +kernel
theorem fixDN_zero : fixDN 0 = List.replicate 32 0 := by decide +kernel
set_option maxRecDepth 100000 in
set_option maxHeartbeats 1000000 in
theorem fixedC (w : World) :
    Calls Try.prog 35 #[] w fun r w' => ∃ b1 b2, r = .returned (.tuple #[.slice (some ⟨b1, 0, none⟩) 288 288, .slice (some ⟨b2, 0, none⟩) 32 32]) ∧ IRow w' b1 fixLs ∧ IRow w' b2 fixDs ∧ b1 ≠ b2 ∧ w.heap.size ≤ b1 ∧ w.heap.size ≤ b2 ∧ Below w.heap.size w w' := by
  have hm1 : ∀ w : World, (Instr.makeSlice 62 (.int .i64 288) (.int .i64 288)).run Try.prog w = .ok (.slice (some ⟨w.heap.size, 0, none⟩) 288 288) (w.alloc (.cells (zeroC 288) 3)) := fun w => make_code 288 w (by omega)
  have hm2 : ∀ w : World, (Instr.makeSlice 62 (.int .i64 32) (.int .i64 32)).run Try.prog w = .ok (.slice (some ⟨w.heap.size, 0, none⟩) 32 32) (w.alloc (.cells (zeroC 32) 3)) := fun w => make_code 32 w (by omega)
  obtain ⟨Z1, hZ1⟩ : ∃ Z, zeroC 288 = Z := ⟨_, rfl⟩
  obtain ⟨Z2, hZ2⟩ : ∃ Z, zeroC 32 = Z := ⟨_, rfl⟩
  rw [hZ1] at hm1
  rw [hZ2] at hm2
  have HZ1 := Lib.hid hZ1
  have HZ2 := Lib.hid hZ2
  clear hZ1 hZ2
  go_enter Try.func35, Try.ntmps35
  go_wp2
  go_region
  · have HL0 : Hid (IRow ((w.alloc (.cells Z1 3)).alloc (.cells Z2 3)).drew w.heap.size (fixLN 0)) := Lib.hid (by
      rw [fixLN_zero, ← HZ1.out]
      exact ((zeroC_row w 288).below ((Below.refl _ _).alloc (Nat.le_refl _) _) (by simp)).drewN 1)
    have HD0 : Hid (IRow ((w.alloc (.cells Z1 3)).alloc (.cells Z2 3)).drew (w.heap.size + 1) (fixDN 0)) := Lib.hid (by
      rw [fixDN_zero, ← HZ2.out]
      have h := zeroC_row (w.alloc (.cells Z1 3)) 32
      have e : (w.alloc (.cells Z1 3)).heap.size = w.heap.size + 1 := by simp
      rw [e] at h
      exact h.drewN 1)
    have HB0 : Hid (Below w.heap.size w ((w.alloc (.cells Z1 3)).alloc (.cells Z2 3)).drew) := Lib.hid (below_drewN (((Below.refl _ _).alloc (Nat.le_refl _) _).alloc (by simp) _) 1)
    have HNE : Hid (w.heap.size ≠ w.heap.size + 1) := Lib.hid (by omega)
    have HS1 : Hid (w.heap.size ≤ w.heap.size) := Lib.hid (by omega)
    have HS2 : Hid (w.heap.size ≤ w.heap.size + 1) := Lib.hid (by omega)
    clear hm1 hm2
    go_wp2
    go_loopw [4] (fun i wr => ∃ j : Nat, j ≤ 288 ∧ i = .int .i64 j ∧ Hid (IRow wr w.heap.size (fixLN j)) ∧ Hid (IRow wr (w.heap.size + 1) (fixDN 0)) ∧ Hid (Below w.heap.size w wr)) (fun i _ => 288 - (intOf i).toNat)
    case atStart => exact ⟨0, Nat.zero_le _, rfl, HL0, HD0, HB0⟩
    case round =>
      obtain ⟨j, hj, rfl, HL, HD, HB⟩ := hrel
      by_cases hlt : j < 288
      · have ho := HL.out.cell j (by rw [fixLN_len]; exact hlt)
        have hf := HL.out.fr j
        rcases (show j ≤ 143 ∨ (143 < j ∧ j ≤ 255) ∨ (255 < j ∧ j ≤ 279) ∨ 279 < j by omega) with h | h | h | h
        all_goals
          go_wp2
          go_roundw
          case rel => exact ⟨j + 1, by omega, by go_num, Lib.hid (fixL_put HL.out hlt _ (by unfold fixL; (repeat' split) <;> first | rfl | omega)), Lib.hid (HD.out.set_ne HNE.out.symm _ _), Lib.hid (HB.out.setCell HS1.out _)⟩
          case measure => simp [intOf]; omega
      · obtain rfl : j = 288 := by omega
        go_wp2
        go_loopw [5] (fun i wr => ∃ j : Nat, j ≤ 32 ∧ i = .int .i64 j ∧ Hid (IRow wr w.heap.size (fixLN 288)) ∧ Hid (IRow wr (w.heap.size + 1) (fixDN j)) ∧ Hid (Below w.heap.size w wr)) (fun i _ => 32 - (intOf i).toNat)
        case atStart => exact ⟨0, Nat.zero_le _, rfl, HL, HD, HB⟩
        case round =>
          obtain ⟨j, hj, rfl, HL, HD, HB⟩ := hrel
          by_cases hlt : j < 32
          · have ho := HD.out.cell j (by rw [fixDN_len]; exact hlt)
            have hf := HD.out.fr j
            have HSET := Lib.hid (fixDN_set j hlt)
            go_wp2
            go_roundw
            case rel => exact ⟨j + 1, by omega, by go_num, Lib.hid (HL.out.set_ne HNE.out _ _), Lib.hid (by rw [← HSET.out]; exact HD.out.put j _), Lib.hid (HB.out.setCell HS2.out _)⟩
            case measure => simp [intOf]; omega
          · obtain rfl : j = 32 := by omega
            go_wp2
            go_ret2
            exact ⟨w.heap.size, (w.heap.size + 1), rfl, HL.out, HD.out, HNE.out, HS1.out, HS2.out, HB.out⟩
  · have HL0 : Hid (IRow ((w.alloc (.cells Z2 3)).alloc (.cells Z1 3)).drew (w.heap.size + 1) (fixLN 0)) := Lib.hid (by
      rw [fixLN_zero, ← HZ1.out]
      have h := zeroC_row (w.alloc (.cells Z2 3)) 288
      have e : (w.alloc (.cells Z2 3)).heap.size = w.heap.size + 1 := by simp
      rw [e] at h
      exact h.drewN 1)
    have HD0 : Hid (IRow ((w.alloc (.cells Z2 3)).alloc (.cells Z1 3)).drew w.heap.size (fixDN 0)) := Lib.hid (by
      rw [fixDN_zero, ← HZ2.out]
      exact ((zeroC_row w 32).below ((Below.refl _ _).alloc (Nat.le_refl _) _) (by simp)).drewN 1)
    have HB0 : Hid (Below w.heap.size w ((w.alloc (.cells Z2 3)).alloc (.cells Z1 3)).drew) := Lib.hid (below_drewN (((Below.refl _ _).alloc (Nat.le_refl _) _).alloc (by simp) _) 1)
    have HNE : Hid (w.heap.size + 1 ≠ w.heap.size) := Lib.hid (by omega)
    have HS1 : Hid (w.heap.size ≤ w.heap.size + 1) := Lib.hid (by omega)
    have HS2 : Hid (w.heap.size ≤ w.heap.size) := Lib.hid (by omega)
    clear hm1 hm2
    go_wp2
    go_loopw [4] (fun i wr => ∃ j : Nat, j ≤ 288 ∧ i = .int .i64 j ∧ Hid (IRow wr (w.heap.size + 1) (fixLN j)) ∧ Hid (IRow wr w.heap.size (fixDN 0)) ∧ Hid (Below w.heap.size w wr)) (fun i _ => 288 - (intOf i).toNat)
    case atStart => exact ⟨0, Nat.zero_le _, rfl, HL0, HD0, HB0⟩
    case round =>
      obtain ⟨j, hj, rfl, HL, HD, HB⟩ := hrel
      by_cases hlt : j < 288
      · have ho := HL.out.cell j (by rw [fixLN_len]; exact hlt)
        have hf := HL.out.fr j
        rcases (show j ≤ 143 ∨ (143 < j ∧ j ≤ 255) ∨ (255 < j ∧ j ≤ 279) ∨ 279 < j by omega) with h | h | h | h
        all_goals
          go_wp2
          go_roundw
          case rel => exact ⟨j + 1, by omega, by go_num, Lib.hid (fixL_put HL.out hlt _ (by unfold fixL; (repeat' split) <;> first | rfl | omega)), Lib.hid (HD.out.set_ne HNE.out.symm _ _), Lib.hid (HB.out.setCell HS1.out _)⟩
          case measure => simp [intOf]; omega
      · obtain rfl : j = 288 := by omega
        go_wp2
        go_loopw [5] (fun i wr => ∃ j : Nat, j ≤ 32 ∧ i = .int .i64 j ∧ Hid (IRow wr (w.heap.size + 1) (fixLN 288)) ∧ Hid (IRow wr w.heap.size (fixDN j)) ∧ Hid (Below w.heap.size w wr)) (fun i _ => 32 - (intOf i).toNat)
        case atStart => exact ⟨0, Nat.zero_le _, rfl, HL, HD, HB⟩
        case round =>
          obtain ⟨j, hj, rfl, HL, HD, HB⟩ := hrel
          by_cases hlt : j < 32
          · have ho := HD.out.cell j (by rw [fixDN_len]; exact hlt)
            have hf := HD.out.fr j
            have HSET := Lib.hid (fixDN_set j hlt)
            go_wp2
            go_roundw
            case rel => exact ⟨j + 1, by omega, by go_num, Lib.hid (HL.out.set_ne HNE.out _ _), Lib.hid (by rw [← HSET.out]; exact HD.out.put j _), Lib.hid (HB.out.setCell HS2.out _)⟩
            case measure => simp [intOf]; omega
          · obtain rfl : j = 32 := by omega
            go_wp2
            go_ret2
            exact ⟨(w.heap.size + 1), w.heap.size, rfl, HL.out, HD.out, HNE.out, HS1.out, HS2.out, HB.out⟩
end Go.Proofs.Ytginbilakdenmaa
