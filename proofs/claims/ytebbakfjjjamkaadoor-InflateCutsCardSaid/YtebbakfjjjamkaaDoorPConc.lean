/- slices.Grow, Concat, Repeat of numbers (what the project's fixed codes are made by). -/
import Derived.Test.YtebbakfjjjamkaaDoorPSym
import Derived.Test.YtebbakfjjjamkaaDoorOwn
import Derived.Test.YtebbakfjjjamkaaDoorShelf
import Derived.Lib.SlFresh
import Derived.Laws.CopyOwn
import Derived.Deep.RegionLaw
import Derived.BigRegion
namespace Go.Proofs.YtebbakfjjjamkaaDoor
open Go.RowKit
set_option linter.unusedVariables false
set_option maxRecDepth 100000

/-- v is a slice of the call's own, in a block from 'base' on, that holds the p bytes zs. -/
structure MineN (w : World) (base : Nat) (v : Value) (p : Nat) (zs : List Int) : Prop where
  own : w.ownsRow base 3 1 v p (zs.map (Value.int .i64))

section
variable {w w' : World} {base p : Nat} {v : Value} {zs : List Int}
theorem MineN.len (h : MineN w base v p zs) : zs.length = p := by have := h.own.1; simp at this; exact this

theorem MineN.nil (w : World) (base : Nat) : MineN w base (.slice none 0 0) 0 [] := ⟨⟨rfl, .inl ⟨rfl, rfl⟩⟩⟩

theorem MineN.only (h : MineN w base v p zs) {g : Nat} (ho : Only g w w') (hg : g < base) : MineN w' base v p zs := by
  refine ⟨⟨h.own.1, ?_⟩⟩
  rcases h.own.2 with h0 | ⟨b, cap, cur, hv, hb, hh, hr⟩
  · exact .inl h0
  · refine .inr ⟨b, cap, cur, hv, hb, ?_, hr⟩
    have hlt : b < w.heap.size := by
      rcases Nat.lt_or_ge b w.heap.size with hlt | hge
      · exact hlt
      · rw [Array.getElem?_eq_none hge] at hh; cases hh
    rw [ho.block b hlt (by omega)]
    exact hh

theorem MineN.drewN (h : MineN w base v p zs) (k : Nat) : MineN (w.drewN k) base v p zs := ⟨h.own⟩

theorem MineN.byt (h : MineN w base v p zs) : ∃ A c, v = .slice A p c ∧ Nums w w.heap.size A p c zs := by
  rcases h.own.2 with ⟨rfl, h0⟩ | ⟨b, cap, cur, rfl, hb, hh, hnc, _⟩
  · subst h0
    exact ⟨none, 0, rfl, h.len, Nat.le_refl _, fun h => absurd h (by omega)⟩
  · refine ⟨some ⟨b, 0, none⟩, cap, rfl, h.len, hnc, fun h0 => ?_⟩
    have hlt : b < w.heap.size := by
      rcases Nat.lt_or_ge b w.heap.size with hlt | hge
      · exact hlt
      · rw [Array.getElem?_eq_none hge] at hh; cases hh
    refine ⟨b, 0, rfl, hlt, fun i hi => ?_⟩
    have hci := h.own.cells (g := b) rfl i (.int .i64 (zs.getD i 0)) (by simp [List.getD, h.len, hi])
    have e2 : (⟨b, 0, none⟩ : Addr).add i = ⟨b, 0 + i, none⟩ := by unfold Addr.add; split <;> simp_all
    rw [← e2]; exact hci

/-- Beyond what was there, the row of v alone may have changed. -/
theorem MineN.append (h : MineN w base v p zs) {B m c : Nat} {A : Option Addr} {ys : List Int} (hy : Nums w B A m c ys) (ty : TypeId) (hb : p + m ≤ 1000000) (hbase : base ≤ w.heap.size) :
    ∃ v' w', (Builtin.append_ #[58, 58] ty #[v, .slice A m c]).run Tryd.prog w = .ok v' w' ∧ MineN w' base v' (p + m) (zs ++ ys) ∧ Below base w w' := by
  obtain ⟨i0, hi, hz0, hz1, hz2⟩ := info_parts infoInt
  have key : m = 0 ∨ 0 < m := by omega
  rcases A with _ | a
  · have h0 : m = 0 := by
      rcases key with h0 | h0
      · exact h0
      · obtain ⟨b, o, e, _⟩ := hy.cell h0
        cases e
    subst h0
    have hn : ys = [] := List.eq_nil_of_length_eq_zero hy.len
    subst hn
    refine ⟨v, w, ?_, by simpa using h, Below.refl _ _⟩
    rcases h.own.2 with ⟨rfl, _⟩ | ⟨b, cap, cur, rfl, _, _, hnc, _⟩
    · simp [Builtin.append_, run_underlying Tryd.underlying58, sizeOf, typeInfo, hi, Builtin.lenOf, Builtin.firstCells]
    · simp [Builtin.append_, run_underlying Tryd.underlying58, sizeOf, typeInfo, hi, Builtin.lenOf, Builtin.firstCells, hnc, storeCells]
  · have hcell : ∀ j u, (ys.map (Value.int .i64))[j]? = some u → w.cell? (a.add j) = some u := by
      intro j u hj
      have hjl : j < ys.length := by have := (List.getElem?_eq_some_iff.1 hj).1; simpa using this
      have hyl := hy.len
      obtain ⟨b, o, e, _, hc⟩ := hy.cell (by omega)
      injection e with e
      subst e
      have e2 : (⟨b, o, none⟩ : Addr).add j = ⟨b, o + j, none⟩ := by unfold Addr.add; split <;> simp_all
      rw [e2, hc j (by omega), ← hj]
      simp [List.getD, hjl]
    obtain ⟨v', w', hr, hown, hgr, _, hat⟩ := run_append_own_at (P := Tryd.prog) w base 58 ty 3 i0 _ 1 8 Tryd.underlying58 hi hz0 hz1 hz2 rfl (by omega) v p _ h.own a m c (ys.map (Value.int .i64))
      (by simp [hy.len]) hcell (fun u hu => by obtain ⟨x, _, rfl⟩ := List.mem_map.1 hu; rfl) (by simp only [maxLen]; omega) (by omega) hbase
    refine ⟨v', w', hr, ⟨by simpa using hown⟩, hgr.os, hgr.tape, hgr.output, hgr.size, fun k hk => hgr.block k (Nat.lt_of_lt_of_le hk hbase) (fun e => ?_)⟩
    rcases h.own.2 with ⟨rfl, _⟩ | ⟨b, cap, cur, rfl, hb, _⟩
    · simp [Value.ownBlock] at e
    · simp [Value.ownBlock] at e
      omega

end

set_option maxHeartbeats 1000000 in
theorem grow_ints (n : Nat) (w : World) (hn : n ≤ 1000000) :
    Calls Tryd.prog 70 #[.slice none 0 0, .int .i64 n] w fun e w' => ∃ v, e = .returned v ∧ MineN w' w.heap.size v 0 [] ∧ Below w.heap.size w w' := by
  rcases Nat.eq_zero_or_pos n with h0 | h0
  · subst h0
    go_enter Tryd.func70, Tryd.ntmps70
    go_wp2
    go_ret
    exact ⟨_, rfl, MineN.nil _ _, Below.refl _ _⟩
  · obtain ⟨i0, hi, hz0, hz1, hz2⟩ := info_parts infoInt
    have hold : (Builtin.firstCells i0.size 0 (.slice none 0 0)).run Tryd.prog w.drew = .ok ([] : List Value).toArray w.drew := run_firstCells_none w.drew i0.size 0 0 0
    have hrz := fun ty => Lib.run_append_grow_zeros (P := Tryd.prog) w 58 3 ty 3 i0 _ .i64 .i64 Tryd.underlying58 Tryd.underlying3 hi hz0 none 0 0 [] hold n h0 (by omega) (by omega) (by omega) (by rw [hz2]; omega) (by
      rw [hz2]
      exact growslice_fits (by omega) (by omega))
    rw [Nat.zero_add] at hrz
    have hge := grownCap_ge w n 0 3
    have hle := grownCap_le_maxLen w n 0 3 (by unfold maxLen; omega)
    obtain ⟨C, hC⟩ : ∃ C, C = (([] : List Value).toArray ++ Builtin.zeroCells (Value.int .i64 0).cells n ++ Builtin.zeroCells (Value.int .i64 0).cells (grownCap w n 0 3 - n)) := ⟨_, rfl⟩
    have hCs : C.size = grownCap w n 0 3 := by
      rw [hC]
      simp [Builtin.zeroCells, Value.cells]
      omega
    obtain ⟨G, hG⟩ : ∃ G, G = grownCap w n 0 3 := ⟨_, rfl⟩
    rw [← hG] at hge hle hCs
    have hrz2 : ∀ ty, (Builtin.append_ #[58, 3] ty #[.slice none 0 0, .int .i64 n]).run Tryd.prog w = .ok (.slice (some ⟨w.heap.size, 0, none⟩) n G) (w.drew.alloc (.cells C 3)) := fun ty => by rw [hC, hG]; exact hrz ty
    have HRZ := Lib.hid hrz2
    have HCS := Lib.hid hCs
    have hG63 : G ≤ 9223372036854775807 := by unfold maxLen at hle; omega
    have HLE := Lib.hid hle
    clear hrz hold hC hG hCs hrz2 hle
    go_enter Tryd.func70, Tryd.ntmps70
    go_wp2_with (at_builtin; refine Lib.wpList_append_run _ rfl _ _ _ _ rfl _ _ rfl rfl _ _ (HRZ.out _) ?_)
    go_ret
    refine ⟨_, rfl, ⟨⟨rfl, .inr ⟨w.heap.size, G, C, rfl, Nat.le_refl _, ?_, Nat.zero_le _, HLE.out, ?_, rfl⟩⟩⟩, ?_⟩
    · exact heap_alloc_new w.drew _
    · rw [HCS.out]; omega
    · exact ((Below.refl _ w).drew).alloc (Nat.le_refl _) _

/-- The slice '.slice A n c' holds n slices of bytes, all below block B. -/
structure PartsN (w : World) (B : Nat) (A : Option Addr) (n : Nat) (As : Nat → Option Addr) (Ns Cs : Nat → Nat) (Z : Nat → List Int) : Prop where
  cell : 0 < n → ∃ b o, A = some ⟨b, o, none⟩ ∧ b < B ∧ ∀ i, i < n → w.cell? ⟨b, o + i, none⟩ = some (.slice (As i) (Ns i) (Cs i))
  byt : ∀ i, i < n → Nums w B (As i) (Ns i) (Cs i) (Z i)

section
variable {w w' : World} {B B' n : Nat} {A : Option Addr} {As : Nat → Option Addr} {Ns Cs : Nat → Nat} {Z : Nat → List Int}
theorem PartsN.below (h : PartsN w B A n As Ns Cs Z) (hb : Below B' w w') (hB : B ≤ B') : PartsN w' B A n As Ns Cs Z :=
  ⟨fun hn => by
    obtain ⟨b, o, e, hlt, hc⟩ := h.cell hn
    exact ⟨b, o, e, hlt, fun i hi => (hb.cell (p := ⟨b, o + i, none⟩) (Nat.lt_of_lt_of_le hlt hB)).trans (hc i hi)⟩, fun i hi => (h.byt i hi).below hb hB⟩

end

set_option maxHeartbeats 2000000 in
theorem concat_ints (A : Option Addr) (n c B : Nat) (As : Nat → Option Addr) (Ns Cs : Nat → Nat) (Z : Nat → List Int) (w : World) (hp : PartsN w B A n As Ns Cs Z) (hB : B ≤ w.heap.size) (hn : n ≤ 60) (hz : ∀ i, i < n → (Z i).length ≤ 200) :
    Calls Tryd.prog 61 #[.slice A n c] w fun e w' => ∃ v, e = .returned v ∧ MineN w' w.heap.size v (catZ Z n).length (catZ Z n) ∧ Below w.heap.size w w' := by
  have HP := Lib.hid hp
  have HZ := Lib.hid hz
  clear hp hz
  go_enter Tryd.func61, Tryd.ntmps61
  go_wp2
  go_loop [3, 11] (fun sz i => ∃ k : Nat, k ≤ n ∧ i = .int .i64 k ∧ sz = .int .i64 ((catZ Z k).length : Nat)) (fun _ i => n - (intOf i).toNat)
  case atStart => exact ⟨0, Nat.zero_le _, rfl, rfl⟩
  case round =>
    obtain ⟨k, hk, rfl, rfl⟩ := hrel
    have hl := catZ_len HZ.out k hk
    obtain ⟨L, hL⟩ : ∃ L, (catZ Z k).length = L := ⟨_, rfl⟩
    rw [hL] at hl ⊢
    have HLL := Lib.hid hL
    clear hL
    by_cases hlt : k < n
    · obtain ⟨b, o, rfl, _, hc⟩ := HP.out.cell (by omega)
      have ck := hc k hlt
      have hz := HZ.out k hlt
      have hln := (HP.out.byt k hlt).len
      obtain ⟨A1, hA1⟩ : ∃ x, As k = x := ⟨_, rfl⟩
      obtain ⟨N1, hN1⟩ : ∃ x, Ns k = x := ⟨_, rfl⟩
      obtain ⟨C1, hC1⟩ : ∃ x, Cs k = x := ⟨_, rfl⟩
      rw [hA1, hN1, hC1] at ck
      have hN200 : N1 ≤ 200 := by omega
      have HN : Hid ((catZ Z (k + 1)).length = L + N1) := Lib.hid (by simp only [catZ, List.length_append]; rw [HLL.out]; omega)
      clear hc hz hln hA1 hN1 hC1
      go_wp2
      go_round
      case rel => exact ⟨k + 1, by omega, by go_num, by rw [HN.out]; go_num⟩
      case measure => simp [intOf]; omega
    · obtain rfl : k = n := by omega
      go_wp2_with (go_at_call 70; refine (grow_ints L w (by omega)).mono ?_; rintro e w1 ⟨v1, rfl, hmi1, hbe1⟩)
      have HMI := Lib.hid hmi1
      have HBE := Lib.hid hbe1
      clear hmi1 hbe1
      go_loopw [6, 27] (fun v i wr => ∃ j : Nat, j ≤ k ∧ i = .int .i64 j ∧ MineN wr w.heap.size v (catZ Z j).length (catZ Z j) ∧ Below w.heap.size w wr) (fun _ i _ => k - (intOf i).toNat)
      case atStart => exact ⟨0, Nat.zero_le _, rfl, HMI.out, HBE.out⟩
      case round =>
        obtain ⟨j, hj, rfl, hmi, hbe⟩ := hrel
        have HMI2 := Lib.hid hmi
        have HBE2 := Lib.hid hbe
        have hl := catZ_len HZ.out j hj
        by_cases hlt2 : j < k
        · have hpj := HP.out.below hbe hB
          obtain ⟨b, o, rfl, _, hc⟩ := hpj.cell (by omega)
          have ck := hc j hlt2
          have hby := hpj.byt j hlt2
          have hln := hby.len
          have hz := HZ.out j hlt2
          have HBY := Lib.hid hby
          have hN200 : Ns j ≤ 200 := by omega
          have HAP := Lib.hid (hmi.append hby 58 (by omega) hbe.size)
          have HCL : Hid ((catZ Z (j + 1)).length = (catZ Z j).length + Ns j) := Lib.hid (by simp only [catZ, List.length_append]; rw [hln])
          clear hpj hc hby hln hz hmi hbe hl
          go_wp2_with (at_builtin; obtain ⟨v6, w6, hrun, hmi6, hbe6⟩ := HAP.out; refine Lib.wpList_append_run_sl _ rfl (.tmp 31) (.tmp 32) 58 rfl _ _ rfl rfl hrun ?_; clear hrun)
          have hmi7 : MineN w6 w.heap.size v6 (catZ Z (j + 1)).length (catZ Z (j + 1)) := by rw [HCL.out]; exact hmi6
          go_roundw
          case rel => exact ⟨j + 1, by omega, by go_num, hmi7, HBE2.out.trans hbe6⟩
          case measure => simp [intOf]; omega
        · obtain rfl : j = k := by omega
          clear hmi hbe
          go_wp2
          go_ret
          exact ⟨_, rfl, HMI2.out, HBE2.out⟩


theorem splice_rep (x : Int) (k j m : Nat) (h : k + j ≤ m) : splice (((List.replicate k x ++ List.replicate (m - k) 0).map (Value.int .i64))) k ((List.replicate j x).map (Value.int .i64)) = (List.replicate (k + j) x ++ List.replicate (m - (k + j)) 0).map (Value.int .i64) := by
  unfold splice
  simp only [List.map_append, List.map_replicate]
  rw [List.take_append_of_le_length (by simp), List.take_of_length_le (by simp), List.drop_append, List.drop_eq_nil_of_le (by simp), List.length_replicate, List.nil_append, List.length_replicate, List.drop_replicate, ← List.replicate_append_replicate, List.append_assoc]
  rw [show m - k - (k + j - k) = m - (k + j) by omega]
theorem src_rep {W : World} {b : Nat} {x : Int} (h : W.cell? ⟨b, 0, none⟩ = some (.int .i64 x)) : ∀ j v, ((List.replicate 1 x).map (Value.int .i64))[j]? = some v → W.cell? ((⟨b, 0, none⟩ : Addr).add j) = some v := fun j v hj => by
  have hj0 : j = 0 := by
    have := (List.getElem?_eq_some_iff.1 hj).1
    simp at this; exact this
  subst hj0
  simp at hj
  rw [← hj, ← h]
  rfl
theorem src_own {W : World} {g k j m : Nat} {x : Int} (h : W.heap[g]? = some (.cells (((List.replicate k x ++ List.replicate (m - k) 0).map (Value.int .i64)).toArray) 3 (0, 0))) (hj : j ≤ k) : ∀ i v, ((List.replicate j x).map (Value.int .i64))[i]? = some v → W.cell? ((⟨g, 0, none⟩ : Addr).add i) = some v := fun i v hi => by
  have hlt := (List.getElem?_eq_some_iff.1 hi).1
  simp at hlt
  simp only [List.map_replicate, List.getElem?_replicate, hlt, if_true] at hi
  have e2 : (⟨g, 0, none⟩ : Addr).add i = ⟨g, 0 + i, none⟩ := by unfold Addr.add; split <;> simp_all
  rw [e2, Nat.zero_add, cell_of_row W g i _ 3 (0, 0) h]
  simp [List.getElem?_append_left, show i < k by omega]
  simpa using hi
set_option maxHeartbeats 1000000 in
theorem prepeat (b m : Nat) (x : Int) (w : World) (hc : w.cell? ⟨b, 0, none⟩ = some (.int .i64 x)) (hb : b < w.heap.size) (m1 : 1 ≤ m) (hm : m ≤ 300) :
    Calls Tryd.prog 62 #[.slice (some ⟨b, 0, none⟩) 1 1, .int .i64 m] w fun e w' => e = .returned (.slice (some ⟨w.heap.size, 0, none⟩) m m) ∧ IRow w' w.heap.size (List.replicate m x) ∧ Below w.heap.size w w' := by
  have HMU := Lib.hid (fun W => Tryd.bits_Mul 1 m (by omega) (by omega) W)
  rw [show 1 * m / 18446744073709551616 = 0 by omega, show 1 * m % 18446744073709551616 = m by omega] at HMU
  obtain ⟨W1, hmk, hir, hbe, hsz⟩ := make_ints m w (by omega)
  have HIR : Hid (W1.heap[w.heap.size]? = some (.cells (((List.replicate 0 x ++ List.replicate (m - 0) 0).map (Value.int .i64)).toArray) 3 (0, 0))) := Lib.hid (by simpa [IRow] using hir)
  have HBE := Lib.hid hbe
  have HCC := Lib.hid (show W1.cell? ⟨b, 0, none⟩ = some (.int .i64 x) from (World.cell?_of_block (hbe.block b hb)).trans hc)
  have e1 : IntKind.u64.wrap (m : Int) = m := by rw [IntKind.wrap_u64]; omega
  have e2 : IntKind.i64.wrap (m : Int) = m := IntWalk.i64_in _ (by omega)
  have hm0 : ¬ (m : Int) < 0 := by omega
  have HM1 := Lib.hid m1
  clear hir hbe hc m1
  go_enter Tryd.func62, Tryd.ntmps62
  go_wp2_with (first
    | (go_at_call 71; refine (HMU.out _).mono ?_; rintro e w2 ⟨rfl, hw2⟩; rw [hw2]; clear hw2)
    | (refine wpList_copy_splice rfl (.tmp 31) (.tmp 32) 58 58 rfl 3 Tryd.underlying58 (by kernel_rfl) (some ⟨w.heap.size, 0, none⟩) (some ⟨b, 0, none⟩) m m 1 1 rfl rfl w.heap.size 0 _ 3 HIR.out ((List.replicate 1 x).map (Value.int .i64)) (by have := HM1.out; simp [Nat.min_def]; omega) (fun _ => ⟨rfl, _, rfl, src_rep HCC.out⟩) (by have := HM1.out; simp; omega) (fun u hu => by simp at hu; subst hu; rfl) w.heap.size w HBE.out (Nat.le_refl _) (fun W2 hW2 hB2 => ?_)))
  have HR2 : Hid (W2.heap[w.heap.size]? = some (.cells (((List.replicate 1 x ++ List.replicate (m - 1) 0).map (Value.int .i64)).toArray) 3 (0, 0))) := Lib.hid (by
    have h1 := hW2.out
    rw [splice_rep x 0 1 m (by have := HM1.out; omega)] at h1
    exact h1)
  have HB2 := Lib.hid hB2
  clear hW2 hB2
  go_loopg [8] m (fun gh nv wr => ∃ k : Nat, 1 ≤ k ∧ k ≤ m ∧ m ≤ k + gh ∧ nv = .int .i64 k ∧ Hid (wr.heap[w.heap.size]? = some (.cells (((List.replicate k x ++ List.replicate (m - k) 0).map (Value.int .i64)).toArray) 3 (0, 0))) ∧ Hid (Below w.heap.size w wr))
  case atStart => exact ⟨1, by omega, HM1.out, by omega, rfl, HR2, HB2⟩
  case round =>
    obtain ⟨k, hk1, hkm, hgk, rfl, HR, HB⟩ := hrel
    by_cases hlt : k < m
    · obtain ⟨j, hj⟩ : ∃ j, Nat.min k (m - k) = j := ⟨_, rfl⟩
      have hj1 : 1 ≤ j ∧ j ≤ k ∧ k + j ≤ m := by simp only [Nat.min_def] at hj; split at hj <;> omega
      have HJ := Lib.hid hj
      have HJ1 := Lib.hid hj1
      have hs1 : ∀ W, (Instr.slice 58 (.slice (some ⟨w.heap.size, 0, none⟩) m m) (some (.int .i64 (k : Int))) none none).run Tryd.prog W = .ok (.slice (some ⟨w.heap.size, k, none⟩) (m - k) (m - k)) W := fun W => by
        rw [run_slice_l (P := Tryd.prog) W 58 _ _ _ (by rw [Tryd.underlying58]; rfl) .i64 (k : Int) (by omega) (by omega)]
        rw [show Tryd.prog.elem 58 = 3 from by kernel_rfl, show (Go.sizeOf 3).run Tryd.prog W = .ok 1 W from by kernel_rfl]
        simp [Result.andThen, sliced, Addr.add, show ¬ m = k by omega, show ¬ k = 0 by omega]
      have hs2 : ∀ W, (Instr.slice 58 (.slice (some ⟨w.heap.size, 0, none⟩) m m) none (some (.int .i64 (k : Int))) none).run Tryd.prog W = .ok (.slice (some ⟨w.heap.size, 0, none⟩) k m) W := fun W => by
        rw [run_slice_h (P := Tryd.prog) W 58 _ _ _ (by rw [Tryd.underlying58]; rfl) .i64 (k : Int) (by omega) (by omega)]
        rw [show Tryd.prog.elem 58 = 3 from by kernel_rfl, show (Go.sizeOf 3).run Tryd.prog W = .ok 1 W from by kernel_rfl]
        simp [Result.andThen, sliced, Addr.add]
      have ek : IntKind.i64.wrap ((k : Int) + j) = ((k + j : Nat) : Int) := by rw [Int.natCast_add]; exact IntWalk.i64_in _ (by omega)
      have hkI : (k : Int) < m := by omega
      have HRD : Hid (wr.drew.heap[w.heap.size]? = some (.cells (((List.replicate k x ++ List.replicate (m - k) 0).map (Value.int .i64)).toArray) 3 (0, 0))) := Lib.hid HR.out
      have HBD : Hid (Below w.heap.size w wr.drew) := Lib.hid (below_drewN HB.out 1)
      have HSRC := Lib.hid (src_own HRD.out hj1.2.1)
      have HCN : Hid (((List.replicate j x).map (Value.int .i64)).length = Nat.min k (m - k)) := Lib.hid (by rw [hj]; simp)
      have HFIT : Hid (k + ((List.replicate j x).map (Value.int .i64)).length ≤ ((List.replicate k x ++ List.replicate (m - k) 0).map (Value.int .i64)).length) := Lib.hid (by simp; omega)
      have HONE : Hid (∀ u ∈ ((List.replicate j x).map (Value.int .i64)), u.oneCell' = true) := Lib.hid (fun u hu => by
        obtain ⟨y, _, rfl⟩ := List.mem_map.1 hu
        rfl)
      have hgl : goInt ((List.replicate j x).map (Value.int .i64)).length = .int .i64 (j : Int) := by simp [goInt]
      obtain ⟨cs, hcs⟩ : ∃ cs, ((List.replicate j x).map (Value.int .i64)) = cs := ⟨_, rfl⟩
      have HCS := Lib.hid hcs
      rw [hcs] at HSRC HCN HFIT HONE hgl
      have HGL := Lib.hid hgl
      clear hj hj1 hlt hcs hgl
      go_wp2_with fail
      go_region_law (refine step_copy_splice rfl (.tmp 41) (.tmp 44) 58 58 rfl 3 Tryd.underlying58 (by kernel_rfl) (some ⟨w.heap.size, k, none⟩) (some ⟨w.heap.size, 0, none⟩) (m - k) (m - k) k m (by simp [Act.eval, Act.put]) (by simp [Act.eval, Act.put]) w.heap.size k _ 3 HRD.out cs HCN.out (fun _ => ⟨rfl, _, rfl, HSRC.out⟩) HFIT.out HONE.out w.heap.size w HBD.out (Nat.le_refl _) ?_; intro W3 hW3 hB3; rw [HGL.out]; rw [← HCS.out] at hW3; have HB3 := Lib.hid hB3; clear hB3)
      all_goals
        have hW4 := hW3.out
        rw [splice_rep x k j m HJ1.out.2.2] at hW4
        have HR4 := Lib.hid hW4
        have hj1 := HJ1.out
        have hgk2 : m ≤ k + j + (gk - j) := by omega
        have HJL : Hid (j ≤ gk) := Lib.hid (by omega)
        clear hW3 hW4 hj1
        go_wp2_with fail
        go_roundg (gk - j)
        case measure => have := HJ1.out; have := HJL.out; omega
        case rel => exact ⟨k + j, by omega, HJ1.out.2.2, hgk2, by first | rfl | go_num, HR4, HB3⟩
    · obtain rfl : k = m := by omega
      have hR := HR.out
      rw [Nat.sub_self, List.replicate_zero, List.append_nil] at hR
      have HRR := Lib.hid hR
      clear hR
      go_wp2
      go_ret
      exact ⟨rfl, HRR.out, HB.out⟩
end Go.Proofs.YtebbakfjjjamkaaDoor
