/- What package cursor's Of answers: all parts, one behind the other, in new memory; the library's own slices.Concat and slices.Grow are walked. -/
import Derived.Test.YtffmdlknkimlhaaOwn
import Derived.Lib.AppendZerosOnto
import Derived.Lib.SliceRun
import Derived.Lib.Walk
namespace Go.Proofs.Ytffmdlknkimlhaa
open Go.RowKit
set_option linter.unusedVariables false

set_option maxHeartbeats 1000000 in
theorem grow_any (n : Nat) (w : World) (hn : n ≤ 1000000) :
    Calls Try.prog 40 #[.slice none 0 0, .int .i64 n] w fun e w' => ∃ v, e = .returned v ∧ Mine w' w.heap.size v 0 [] ∧ Below w.heap.size w w' := by
  rcases Nat.eq_zero_or_pos n with h0 | h0
  · subst h0
    go_enter Try.func40, Try.ntmps40
    go_wp2
    go_ret
    exact ⟨_, rfl, Mine.nil _ _, Below.refl _ _⟩
  · obtain ⟨i0, hi, hz0, hz1, hz2⟩ := info_parts info5
    have hold : (Builtin.firstCells i0.size 0 (.slice none 0 0)).run Try.prog w.drew = .ok ([] : List Value).toArray w.drew := run_firstCells_none w.drew i0.size 0 0 0
    have hrz := fun ty => Lib.run_append_grow_zeros (P := Try.prog) w 25 3 ty 5 i0 _ .i64 .i64 Try.underlying25 Try.underlying3 hi hz0 none 0 0 [] hold n h0 (by omega) (by omega) (by omega) (by rw [hz2]; omega) (by
      rw [hz2]
      exact growslice_fits (by omega) (by omega))
    rw [Nat.zero_add] at hrz
    have hge := grownCap_ge w n 0 5
    have hle := grownCap_le_maxLen w n 0 5 (by unfold maxLen; omega)
    obtain ⟨C, hC⟩ : ∃ C, C = (([] : List Value).toArray ++ Builtin.zeroCells (Value.int .u8 0).cells n ++ Builtin.zeroCells (Value.int .u8 0).cells (grownCap w n 0 5 - n)) := ⟨_, rfl⟩
    have hCs : C.size = grownCap w n 0 5 := by
      rw [hC]
      simp [Builtin.zeroCells, Value.cells]
      omega
    obtain ⟨G, hG⟩ : ∃ G, G = grownCap w n 0 5 := ⟨_, rfl⟩
    rw [← hG] at hge hle hCs
    have hrz2 : ∀ ty, (Builtin.append_ #[25, 3] ty #[.slice none 0 0, .int .i64 n]).run Try.prog w = .ok (.slice (some ⟨w.heap.size, 0, none⟩) n G) (w.drew.alloc (.cells C 5)) := fun ty => by rw [hC, hG]; exact hrz ty
    have HRZ := Lib.hid hrz2
    have HCS := Lib.hid hCs
    have hG63 : G ≤ 9223372036854775807 := by unfold maxLen at hle; omega
    have HLE := Lib.hid hle
    clear hrz hold hC hG hCs hrz2 hle
    go_enter Try.func40, Try.ntmps40
    go_wp2_with (at_builtin; refine Lib.wpList_append_run _ rfl _ _ _ _ rfl _ _ rfl rfl _ _ (HRZ.out _) ?_)
    go_ret
    refine ⟨_, rfl, ⟨⟨rfl, .inr ⟨w.heap.size, G, C, rfl, Nat.le_refl _, ?_, Nat.zero_le _, HLE.out, ?_, rfl⟩⟩, fun _ h => by cases h⟩, ?_⟩
    · exact heap_alloc_new w.drew _
    · rw [HCS.out]; omega
    · exact ((Below.refl _ w).drew).alloc (Nat.le_refl _) _

/-- The slice '.slice A n c' holds n slices of bytes, all below block B. -/
structure Parts (w : World) (B : Nat) (A : Option Addr) (n : Nat) (As : Nat → Option Addr) (Ns Cs : Nat → Nat) (Z : Nat → List Int) : Prop where
  cell : 0 < n → ∃ b o, A = some ⟨b, o, none⟩ ∧ b < B ∧ ∀ i, i < n → w.cell? ⟨b, o + i, none⟩ = some (.slice (As i) (Ns i) (Cs i))
  byt : ∀ i, i < n → Byt w B (As i) (Ns i) (Cs i) (Z i)

section
variable {w w' : World} {B B' n : Nat} {A : Option Addr} {As : Nat → Option Addr} {Ns Cs : Nat → Nat} {Z : Nat → List Int}
theorem Parts.below (h : Parts w B A n As Ns Cs Z) (hb : Below B' w w') (hB : B ≤ B') : Parts w' B A n As Ns Cs Z :=
  ⟨fun hn => by
    obtain ⟨b, o, e, hlt, hc⟩ := h.cell hn
    exact ⟨b, o, e, hlt, fun i hi => (hb.cell (p := ⟨b, o + i, none⟩) (Nat.lt_of_lt_of_le hlt hB)).trans (hc i hi)⟩, fun i hi => (h.byt i hi).below hb hB⟩
end

/-- The first k parts, one behind the other. -/
def catZ (Z : Nat → List Int) : Nat → List Int
  | 0 => []
  | k + 1 => catZ Z k ++ Z k
theorem catZ_len {Z : Nat → List Int} {n : Nat} (h : ∀ i, i < n → (Z i).length ≤ 200) : ∀ k, k ≤ n → (catZ Z k).length ≤ 200 * k := by
  intro k
  induction k with
  | zero => intro _; simp [catZ]
  | succ k ih =>
    intro hk
    have h1 := ih (by omega)
    have h2 := h k (by omega)
    simp only [catZ, List.length_append]
    omega

set_option maxHeartbeats 2000000 in
theorem concat_any (A : Option Addr) (n c B : Nat) (As : Nat → Option Addr) (Ns Cs : Nat → Nat) (Z : Nat → List Int) (w : World) (hp : Parts w B A n As Ns Cs Z) (hB : B ≤ w.heap.size) (hn : n ≤ 60) (hz : ∀ i, i < n → (Z i).length ≤ 200) :
    Calls Try.prog 31 #[.slice A n c] w fun e w' => ∃ v, e = .returned v ∧ Mine w' w.heap.size v (catZ Z n).length (catZ Z n) ∧ Below w.heap.size w w' := by
  have HP := Lib.hid hp
  have HZ := Lib.hid hz
  clear hp hz
  go_enter Try.func31, Try.ntmps31
  go_wp2
  go_loop [3, 11] (fun sz i => ∃ k : Nat, k ≤ n ∧ i = .int .i64 k ∧ sz = .int .i64 ((catZ Z k).length : Nat)) (fun _ i => n - (intOf i).toNat)
  case atStart => exact ⟨0, Nat.zero_le _, rfl, rfl⟩
  case round =>
    obtain ⟨k, hk, rfl, rfl⟩ := hrel
    have hl := catZ_len HZ.out k hk
    obtain ⟨L, hL⟩ : ∃ L, (catZ Z k).length = L := ⟨_, rfl⟩
    rw [hL] at hl ⊢
    have HLL := Lib.hid hL
    clear hL
    by_cases hlt : k < n
    · obtain ⟨b, o, rfl, _, hc⟩ := HP.out.cell (by omega)
      have ck := hc k hlt
      have hz := HZ.out k hlt
      have hln := (HP.out.byt k hlt).len
      obtain ⟨A1, hA1⟩ : ∃ x, As k = x := ⟨_, rfl⟩
      obtain ⟨N1, hN1⟩ : ∃ x, Ns k = x := ⟨_, rfl⟩
      obtain ⟨C1, hC1⟩ : ∃ x, Cs k = x := ⟨_, rfl⟩
      rw [hA1, hN1, hC1] at ck
      have hN200 : N1 ≤ 200 := by omega
      have HN : Hid ((catZ Z (k + 1)).length = L + N1) := Lib.hid (by simp only [catZ, List.length_append]; rw [HLL.out]; omega)
      clear hc hz hln hA1 hN1 hC1
      go_wp2
      go_round
      case rel => exact ⟨k + 1, by omega, by go_num, by rw [HN.out]; go_num⟩
      case measure => simp [intOf]; omega
    · obtain rfl : k = n := by omega
      go_wp2_with (go_at_call 40; refine (grow_any L w (by omega)).mono ?_; rintro e w1 ⟨v1, rfl, hmi1, hbe1⟩)
      have HMI := Lib.hid hmi1
      have HBE := Lib.hid hbe1
      clear hmi1 hbe1
      go_loopw [6, 27] (fun v i wr => ∃ j : Nat, j ≤ k ∧ i = .int .i64 j ∧ Mine wr w.heap.size v (catZ Z j).length (catZ Z j) ∧ Below w.heap.size w wr) (fun _ i _ => k - (intOf i).toNat)
      case atStart => exact ⟨0, Nat.zero_le _, rfl, HMI.out, HBE.out⟩
      case round =>
        obtain ⟨j, hj, rfl, hmi, hbe⟩ := hrel
        have HMI2 := Lib.hid hmi
        have HBE2 := Lib.hid hbe
        have hl := catZ_len HZ.out j hj
        by_cases hlt2 : j < k
        · have hpj := HP.out.below hbe hB
          obtain ⟨b, o, rfl, _, hc⟩ := hpj.cell (by omega)
          have ck := hc j hlt2
          have hby := hpj.byt j hlt2
          have hln := hby.len
          have hz := HZ.out j hlt2
          have HBY := Lib.hid hby
          have hN200 : Ns j ≤ 200 := by omega
          have HAP := Lib.hid (hmi.append hby 25 (by omega) hbe.size)
          have HCL : Hid ((catZ Z (j + 1)).length = (catZ Z j).length + Ns j) := Lib.hid (by simp only [catZ, List.length_append]; rw [hln])
          clear hpj hc hby hln hz hmi hbe hl
          go_wp2_with (at_builtin; obtain ⟨v6, w6, hrun, hmi6, hbe6⟩ := HAP.out; refine Lib.wpList_append_run_sl _ rfl (.tmp 31) (.tmp 32) 25 rfl _ _ rfl rfl hrun ?_; clear hrun)
          have hmi7 : Mine w6 w.heap.size v6 (catZ Z (j + 1)).length (catZ Z (j + 1)) := by rw [HCL.out]; exact hmi6
          go_roundw
          case rel => exact ⟨j + 1, by omega, by go_num, hmi7, HBE2.out.trans hbe6⟩
          case measure => simp [intOf]; omega
        · obtain rfl : j = k := by omega
          clear hmi hbe
          go_wp2
          go_ret
          exact ⟨_, rfl, HMI2.out, HBE2.out⟩

/-- Of. -/
theorem of_any (A : Option Addr) (n c B : Nat) (As : Nat → Option Addr) (Ns Cs : Nat → Nat) (Z : Nat → List Int) (w : World) (hp : Parts w B A n As Ns Cs Z) (hB : B ≤ w.heap.size) (hn : n ≤ 60) (hz : ∀ i, i < n → (Z i).length ≤ 200) :
    Calls Try.prog 21 #[.slice A n c] w fun e w' => ∃ v, e = .returned v ∧ Mine w' w.heap.size v (catZ Z n).length (catZ Z n) ∧ Below w.heap.size w w' := by
  have HC := Lib.hid (concat_any A n c B As Ns Cs Z w hp hB hn hz)
  clear hp hz
  go_enter Try.func21, Try.ntmps21
  go_wp2_with (go_at_call 31; refine HC.out.mono ?_; rintro e w1 ⟨v1, rfl, hmi1, hbe1⟩)
  go_ret
  exact ⟨_, rfl, hmi1, hbe1⟩
end Go.Proofs.Ytffmdlknkimlhaa
