/- The project's own Zlib (package inflate): the same as the document's. -/
import Derived.Test.YtebbakfjjjamkaaDoorPBlocks
import Derived.Test.YtebbakfjjjamkaaDoorRef4Unz
import Derived.Test.YtebbakfjjjamkaaDoorSm3
namespace Go.Proofs.YtebbakfjjjamkaaDoor
open Go.RowKit
set_option linter.unusedVariables false
set_option maxRecDepth 100000

theorem and_lit (v : Int) (m : Nat) (hm : m ≤ 30) (v0 : 0 ≤ v) (v1 : v < 4294967296) (k : Int) (hk : k = 2 ^ m - 1) : bits .and .i64 v k = v % 2 ^ m := by rw [hk]; exact and_low v m hm v0 v1
theorem pwraps (z0 z1 : Int) (w : World) (a0 : 0 ≤ z0) (a1 : z0 < 256) (b0 : 0 ≤ z1) (b1 : z1 < 256) :
    Calls Tryd.prog 17 #[.int .i64 (z0 * 256 + z1)] w fun e w' => e = .returned (.bool (decide (headB z0 z1))) ∧ w = w' := by
  obtain ⟨h, hh⟩ : ∃ h, z0 * 256 + z1 = h := ⟨_, rfl⟩
  have e1 : bits .and .i64 (h / 256) 15 = z0 % 16 := by rw [and_lit (h / 256) 4 (by omega) (by omega) (by omega) 15 (by decide)]; show h / 256 % 16 = _; omega
  have e2 : bits .and .i64 (h / 32) 1 = z1 / 32 % 2 := by rw [and_lit (h / 32) 1 (by omega) (by omega) (by omega) 1 (by decide)]; show h / 32 % 2 = _; omega
  have e3 : h / 4096 = z0 / 16 := by omega
  have e4 : h.tmod 31 = h % 31 := Int.tmod_eq_emod_of_nonneg (by omega)
  have hd : decide (headB z0 z1) = (z0 % 16 == 8 && decide (z0 / 16 ≤ 7) && h % 31 == 0 && z1 / 32 % 2 == 0) := by
    unfold headB
    rw [← hh]
    by_cases c1 : z0 % 16 = 8 <;> by_cases c2 : z0 / 16 ≤ 7 <;> by_cases c3 : (z0 * 256 + z1) % 31 = 0 <;> by_cases c4 : z1 / 32 % 2 = 0 <;> simp [c1, c2, c3, c4]
  rw [hd, hh]
  obtain ⟨X1, hX1⟩ : ∃ x, z0 % 16 = x := ⟨_, rfl⟩
  obtain ⟨X2, hX2⟩ : ∃ x, z0 / 16 = x := ⟨_, rfl⟩
  obtain ⟨X3, hX3⟩ : ∃ x, h % 31 = x := ⟨_, rfl⟩
  obtain ⟨X4, hX4⟩ : ∃ x, z1 / 32 % 2 = x := ⟨_, rfl⟩
  have e5 : h.tmod 31 = X3 := e4.trans hX3
  have hh0 : ¬ h < 0 := by omega
  rw [hX1] at e1 ⊢
  rw [hX2] at e3 ⊢
  rw [hX3]
  rw [hX4] at e2 ⊢
  clear hd hh hX1 hX2 hX3 hX4 e4 a0 a1 b0 b1 hh0
  rcases d1 : (X1 == 8) with _ | _ <;> rcases d2 : decide (X2 ≤ 7) with _ | _ <;> rcases d3 : (X3 == 0) with _ | _ <;> rcases d4 : (X4 == 0) with _ | _
  all_goals
    go_enter Tryd.func17, Tryd.ntmps17
    go_wp2
    go_ret
    exact ⟨rfl, rfl⟩
theorem cut_lowB (W : World) (A : Option Addr) (n c l : Nat) (hl : l ≤ n) : (Instr.slice 22 (.slice A n c) (some (.int .i64 (l : Int))) none none).run Tryd.prog W = .ok (.slice (cutA A c l) (n - l) (c - l)) W := by
  rw [run_slice_l (P := Tryd.prog) W 22 _ _ _ (by rw [Tryd.underlying22]; rfl) .i64 (l : Int) (by omega) (by omega)]
  rw [show Tryd.prog.elem 22 = 5 from by kernel_rfl, show (Go.sizeOf 5).run Tryd.prog W = .ok 1 W from by kernel_rfl]
  simp [Result.andThen, sliced, cutA]
theorem part1 (W : World) (A : Option Addr) (L c : Nat) (zs : List Int) (h : Byt W W.heap.size A L c zs) :
    Parts (W.alloc (.cells #[.slice A L c] 22)) (W.alloc (.cells #[.slice A L c] 22)).heap.size (some ⟨W.heap.size, 0, none⟩) 1 (fun _ => A) (fun _ => L) (fun _ => c) (fun _ => zs) := by
  have hs : (W.alloc (.cells #[.slice A L c] 22)).heap.size = W.heap.size + 1 := by simp
  refine ⟨fun _ => ⟨W.heap.size, 0, rfl, by omega, fun i hi => ?_⟩, fun i hi => ?_⟩
  · obtain rfl : i = 0 := by omega
    rw [cell_of_row _ W.heap.size 0 _ 22 (0, 0) (heap_alloc_new W _)]
    rfl
  · exact (h.below ((Below.refl W.heap.size W).alloc (Nat.le_refl _) _) (Nat.le_refl _)).more (by omega)
theorem num2 (zs : List Int) (h : 2 ≤ zs.length) : numZ ((zs.drop 0).take 2) = zs.getD 0 0 * 256 + zs.getD 1 0 := by
  match zs, h with
  | a :: b :: r, _ => simp [numZ]

set_option maxHeartbeats 4000000 in
theorem inZlib (A : Option Addr) (n c M : Nat) (m : Int) (zs : List Int) (w : World) (hb : Byt w w.heap.size A n c zs) (ho : Ord w) (hn : n ≤ 1000000) (hM : M ≤ 100000000) (hm : max m 0 = M) (m0 : -9223372036854775808 ≤ m) :
    Calls Tryd.prog 7 #[.slice A n c, .int .i64 m] w (FlowPost w (unzS zs M)) := by
  have HLEN := Lib.hid hb.len
  have HB := Lib.hid hb
  have HN := Lib.hid (new_cur A n c w)
  have HO := Lib.hid (fun W (hW : Below w.heap.size w W) => ho.below hW (Nat.le_refl _))
  obtain ⟨kc, hkc⟩ : ∃ kc, w.heap.size = kc := ⟨_, rfl⟩
  have HKC := Lib.hid hkc
  by_cases h2 : n < 2
  · have hu : unzS zs M = ([], 0, 2) := by unfold unzS; rw [hb.len, if_pos h2]
    have HU := Lib.hid hu
    have HW := Lib.hid (fun W (hc : Cur W kc A n c 0) => word_out kc n c 0 2 A W hc (Nat.zero_le _) (by omega) hn)
    rw [hkc] at HN
    clear hu hb ho hkc
    go_enter Tryd.func7, Tryd.ntmps7
    go_wp2_with (first
      | (go_at_call 15; refine HN.out.mono ?_; rintro r w1 ⟨rfl, hc1, hb1⟩; have HC1 := Lib.hid hc1; have HB1 := Lib.hid hb1; clear hc1 hb1)
      | (go_at_call 16; refine (HW.out _ HC1.out).mono ?_; rintro r w2 ⟨rfl, rfl⟩))
    go_ret3
    exact ⟨none, 0, by rw [HU.out]; rfl, by rw [HU.out]; exact Byt.none_ _ _, by rw [HU.out]; exact Nat.zero_le _, by rw [HKC.out]; exact HB1.out⟩
  have hn2 : 2 ≤ n := by omega
  have hnum := num2 zs (by rw [hb.len]; exact hn2)
  have g0 := hb.getD 0
  have g1 := hb.getD 1
  have hu : unzS zs M = if ¬ headB (zs.getD 0 0) (zs.getD 1 0) then ([], 0, 4) else if ¬ (blocksS (zs.drop 2) M).2.2 = 0 then ([], 0, (blocksS (zs.drop 2) M).2.2) else if (zs.length : Int) - 2 - (blocksS (zs.drop 2) M).2.1 < 4 then ([], 0, 2) else if ¬ numZ ((zs.drop (2 + (blocksS (zs.drop 2) M).2.1)).take 4) = moreV 1 (blocksS (zs.drop 2) M).1 then ([], 0, 10) else ((blocksS (zs.drop 2) M).1, (blocksS (zs.drop 2) M).2.1 + 6, 0) := by unfold unzS; rw [if_neg (by rw [hb.len]; exact h2)]
  obtain ⟨z0, hz0⟩ : ∃ z, zs.getD 0 0 = z := ⟨_, rfl⟩
  obtain ⟨z1, hz1⟩ : ∃ z, zs.getD 1 0 = z := ⟨_, rfl⟩
  rw [hz0, hz1] at hnum hu
  rw [hz0] at g0
  rw [hz1] at g1
  obtain ⟨g00, g01⟩ := g0
  obtain ⟨g10, g11⟩ := g1
  have HW2 := Lib.hid (fun W (hc : Cur W kc A n c 0) (hW : Below w.heap.size w W) => word_in kc n c 0 2 w.heap.size A zs W hc (hb.below hW (Nat.le_refl _)) (Nat.le_of_eq hkc) (by omega) (by omega) (by omega) hn)
  rw [hnum] at HW2
  have HWR := Lib.hid (fun W => pwraps z0 z1 W g00 g01 g10 g11)
  rw [hkc] at HN
  obtain ⟨hv, hhv⟩ : ∃ hv, z0 * 256 + z1 = hv := ⟨_, rfl⟩
  rw [hhv] at HW2 HWR
  have HW2L : Hid (∀ W, Cur W kc A n c 0 → Below w.heap.size w W → Calls Tryd.prog 16 #[.pointer (some ⟨kc, 0, none⟩), .int .i64 2] W (fun e w' => e = .returned (.tuple #[.int .i64 hv, .bool true]) ∧ Cur w' kc A n c (0 + 2) ∧ Only kc W w')) := HW2
  clear HW2
  have HU := Lib.hid hu
  have HN2 := Lib.hid hn2
  clear hu hb ho hnum hz0 hz1 h2 hhv hn2 hkc g00 g01 g10 g11
  by_cases hh : ¬ headB z0 z1
  · have hu := HU.out
    rw [if_pos hh] at hu
    have HU2 := Lib.hid hu
    rw [decide_eq_false hh] at HWR
    clear hu hh
    go_enter Tryd.func7, Tryd.ntmps7
    go_wp2_with (first
      | (go_at_call 15; refine HN.out.mono ?_; rintro r w1 ⟨rfl, hc1, hb1⟩; have HC1 := Lib.hid hc1; have HB1 := Lib.hid hb1; clear hc1 hb1)
      | (go_at_call 16; with_reducible refine (HW2L.out _ HC1.out (by rw [HKC.out]; exact HB1.out)).mono ?_; rintro r w2 ⟨rfl, hc2, ho2⟩; have HO2 := Lib.hid ho2; clear hc2 ho2)
      | (go_at_call 17; refine (HWR.out _).mono ?_; rintro r w3 ⟨rfl, rfl⟩))
    go_ret3
    exact ⟨none, 0, by rw [HU2.out]; rfl, by rw [HU2.out]; exact Byt.none_ _ _, by rw [HU2.out]; exact Nat.zero_le _, by rw [HKC.out]; exact HB1.out.trans (HO2.out.below (Nat.le_of_lt HC1.out.lt))⟩
  have hh := Decidable.not_not.1 hh
  rw [decide_eq_true hh] at HWR
  have hu := HU.out
  rw [if_neg (fun h => h hh)] at hu
  have hxn := blocksS_n (zs.drop 2) M
  obtain ⟨⟨xo, xn, xe⟩, hx⟩ : ∃ x, blocksS (zs.drop 2) M = x := ⟨_, rfl⟩
  rw [hx] at hu hxn
  dsimp only at hu hxn
  rw [List.length_drop, HLEN.out] at hxn
  rw [HLEN.out] at hu
  have HBL := Lib.hid (fun W (hW : Below w.heap.size w W) => (show Calls Tryd.prog 12 #[.slice (cutA A c 2) (n - 2) (c - 2), .int .i64 m] W (FlowPost2 W M (xo, xn, xe)) from hx ▸ inBlocks2 (cutA A c 2) (n - 2) (c - 2) M m (zs.drop 2) W (by
    have hcut := (HB.out.below hW (Nat.le_refl _)).cut (l := 2) (m := n - 2) (by have := HN2.out; omega)
    rw [List.take_of_length_le (by rw [List.length_drop, HLEN.out]; omega)] at hcut
    exact hcut.more hW.size) (HO.out W hW) (by omega) hM hm m0))
  have hcl := fun W => cut_lowB W A n c 2 HN2.out
  have HCL : Hid (∀ W : World, (Instr.slice 22 (.slice A n c) (some (.int .i64 2)) none none).run Tryd.prog W = .ok (.slice (cutA A c 2) (n - 2) (c - 2)) W) := Lib.hid hcl
  have HU2 := Lib.hid hu
  have HKB : Hid (∀ W, Below kc w W → Below w.heap.size w W) := Lib.hid (fun W h => by rw [HKC.out]; exact h)
  have hcl2 := HCL.out
  clear hu hh hx hcl
  by_cases hxe : ¬ xe = 0
  · have hu := HU2.out
    rw [if_pos hxe] at hu
    have HU3 := Lib.hid hu
    have hz : (xe == 0) = false := beq_eq_false_iff_ne.2 hxe
    clear hu hxe
    go_enter Tryd.func7, Tryd.ntmps7
    go_wp2_with (first
          | (go_at_call 15; refine HN.out.mono ?_; rintro r w1 ⟨rfl, hc1, hb1⟩; have HC1 := Lib.hid hc1; have HB1 := Lib.hid hb1; clear hc1 hb1)
          | (go_at_call 16; with_reducible refine (HW2L.out _ HC1.out (HKB.out _ HB1.out)).mono ?_; rintro r w2 ⟨rfl, hc2, ho2⟩; have HC2 := Lib.hid hc2; have HB2 : Hid (Below kc w w2) := Lib.hid (HB1.out.trans (ho2.below (Nat.le_of_lt HC1.out.lt))); clear hc2 ho2)
          | (go_at_call 17; refine (HWR.out _).mono ?_; rintro r w3 ⟨rfl, rfl⟩)
          | (go_at_call 18; with_reducible refine (pos_any _ _ _ _ _ _ HC2.out).mono ?_; rintro r w3 ⟨rfl, rfl⟩)
          | (go_at_call 12; refine (HBL.out _ (HKB.out _ HB2.out)).mono ?_; rintro r w3 ⟨A3, c3, rfl, hy3, hl3, hf3, hb3⟩; dsimp only at hy3 hl3 hf3 ⊢; have HY3 := Lib.hid hy3; have HL3 := Lib.hid hl3; have HF3 := Lib.hid hf3; have HC3 := Lib.hid (HC2.out.below hb3 HC2.out.lt); have HB3 : Hid (Below kc w w3) := Lib.hid (HB2.out.trans (hb3.mono (Nat.le_of_lt HC2.out.lt))); clear hy3 hl3 hf3 hb3))
    go_ret3
    exact ⟨none, 0, by rw [HU3.out]; rfl, by rw [HU3.out]; exact Byt.none_ _ _, by rw [HU3.out]; exact Nat.zero_le _, HKB.out _ HB3.out⟩
  have hxe := Decidable.not_not.1 hxe
  subst hxe
  obtain ⟨Q, hQ⟩ : ∃ Q, 2 + xn = Q := ⟨_, rfl⟩
  have es : IntKind.i64.wrap (2 + (xn : Int)) = (Q : Int) := by rw [← hQ, Int.natCast_add]; exact IntWalk.i64_in _ (by omega)
  have HQN : Hid (Q ≤ n) := Lib.hid (by have := HN2.out; omega)
  have hu := HU2.out
  rw [if_neg (show ¬ ¬ (0 : Int) = 0 by decide), hQ] at hu
  by_cases hlt : (n : Int) - 2 - xn < 4
  · rw [if_pos hlt] at hu
    have HU3 := Lib.hid hu
    have HQ4 : Hid ((4 : Int) < 1 ∨ 7 < (4 : Int) ∨ (n : Int) - Q < 4) := Lib.hid (.inr (.inr (by omega)))
    clear hu hlt hQ hxn
    go_enter Tryd.func7, Tryd.ntmps7
    go_wp2_with (first
          | (go_at_call 15; refine HN.out.mono ?_; rintro r w1 ⟨rfl, hc1, hb1⟩; have HC1 := Lib.hid hc1; have HB1 := Lib.hid hb1; clear hc1 hb1)
          | (go_at_call 16; with_reducible refine (HW2L.out _ HC1.out (HKB.out _ HB1.out)).mono ?_; rintro r w2 ⟨rfl, hc2, ho2⟩; have HC2 := Lib.hid hc2; have HB2 : Hid (Below kc w w2) := Lib.hid (HB1.out.trans (ho2.below (Nat.le_of_lt HC1.out.lt))); clear hc2 ho2)
          | (go_at_call 17; refine (HWR.out _).mono ?_; rintro r w3 ⟨rfl, rfl⟩)
          | (go_at_call 18; with_reducible refine (pos_any _ _ _ _ _ _ HC2.out).mono ?_; rintro r w3 ⟨rfl, rfl⟩)
          | (go_at_call 12; refine (HBL.out _ (HKB.out _ HB2.out)).mono ?_; rintro r w3 ⟨A3, c3, rfl, hy3, hl3, hf3, hb3⟩; dsimp only at hy3 hl3 hf3 ⊢; have HY3 := Lib.hid hy3; have HL3 := Lib.hid hl3; have HF3 := Lib.hid hf3; have HC3 := Lib.hid (HC2.out.below hb3 HC2.out.lt); have HB3 : Hid (Below kc w w3) := Lib.hid (HB2.out.trans (hb3.mono (Nat.le_of_lt HC2.out.lt))); clear hy3 hl3 hf3 hb3)
          | (go_at_call 18; with_reducible refine (pos_any _ _ _ _ _ _ HC3.out).mono ?_; rintro r w4 ⟨rfl, rfl⟩)
          | (go_at_call 19; refine (seek_in kc n c 2 Q A _ HC3.out HQN.out hn).mono ?_; rintro r w4 ⟨rfl, hc4, ho4⟩; have HC4 := Lib.hid hc4; have HY4 := Lib.hid (HY3.out.onlyF ho4 HF3.out HC2.out.lt (Nat.le_refl _)); have HS4 := Lib.hid ho4.size; have HB4 : Hid (Below kc w w4) := Lib.hid (HB3.out.trans (ho4.below (Nat.le_of_lt HC3.out.lt))); clear hc4 ho4)
          | (go_at_call 16; refine (word_out kc n c Q 4 A _ HC4.out HQN.out HQ4.out hn).mono ?_; rintro r w5 ⟨rfl, rfl⟩))
    go_ret3
    exact ⟨none, 0, by rw [HU3.out]; rfl, by rw [HU3.out]; exact Byt.none_ _ _, by rw [HU3.out]; exact Nat.zero_le _, HKB.out _ HB4.out⟩
  rw [if_neg hlt] at hu
  have hQ4 : Q + 4 ≤ n := by have := HN2.out; omega
  have HQ6 : Hid (xn + 6 = Q + 4) := Lib.hid (by omega)
  have HW4 := Lib.hid (fun W (hc : Cur W kc A n c Q) (hW : Below kc w W) => word_in kc n c Q 4 w.heap.size A zs W hc (HB.out.below (HKB.out _ hW) (Nat.le_refl _)) (Nat.le_of_eq HKC.out) (by omega) (by omega) hQ4 hn)
  have hnb := numZ_lt ((zs.drop Q).take 4) (fun z hz => HB.out.rng z (List.mem_of_mem_drop (List.mem_of_mem_take hz))) 4 (by simp [HLEN.out]; omega)
  rw [List.take_of_length_le (by simp; omega)] at hnb
  have hmb := moreV_bd 1 xo
  have HCAT : Hid (catZ (fun _ => xo) 1 = xo) := Lib.hid (by simp [catZ])
  obtain ⟨NV, hNV⟩ : ∃ x, numZ ((zs.drop Q).take 4) = x := ⟨_, rfl⟩
  obtain ⟨MV, hMV⟩ : ∃ x, moreV 1 xo = x := ⟨_, rfl⟩
  rw [hNV] at hnb hu HW4
  rw [hMV] at hmb hu
  have hnb2 : NV < 4294967296 := hnb.2
  have hu8 : IntKind.u32.wrap NV = NV := by rw [IntKind.wrap_u32]; omega
  have HMV := Lib.hid hMV
  by_cases hsum : ¬ NV = MV
  · rw [if_pos hsum] at hu
    have HU3 := Lib.hid hu
    have hz : (NV == MV) = false := beq_eq_false_iff_ne.2 hsum
    clear hu hsum hlt hQ hxn hnb hnb2 hmb hNV hMV hQ4
    go_enter Tryd.func7, Tryd.ntmps7
    go_wp2_with (first
          | (go_at_call 15; refine HN.out.mono ?_; rintro r w1 ⟨rfl, hc1, hb1⟩; have HC1 := Lib.hid hc1; have HB1 := Lib.hid hb1; clear hc1 hb1)
          | (go_at_call 16; with_reducible refine (HW2L.out _ HC1.out (HKB.out _ HB1.out)).mono ?_; rintro r w2 ⟨rfl, hc2, ho2⟩; have HC2 := Lib.hid hc2; have HB2 : Hid (Below kc w w2) := Lib.hid (HB1.out.trans (ho2.below (Nat.le_of_lt HC1.out.lt))); clear hc2 ho2)
          | (go_at_call 17; refine (HWR.out _).mono ?_; rintro r w3 ⟨rfl, rfl⟩)
          | (go_at_call 18; with_reducible refine (pos_any _ _ _ _ _ _ HC2.out).mono ?_; rintro r w3 ⟨rfl, rfl⟩)
          | (go_at_call 12; refine (HBL.out _ (HKB.out _ HB2.out)).mono ?_; rintro r w3 ⟨A3, c3, rfl, hy3, hl3, hf3, hb3⟩; dsimp only at hy3 hl3 hf3 ⊢; have HY3 := Lib.hid hy3; have HL3 := Lib.hid hl3; have HF3 := Lib.hid hf3; have HC3 := Lib.hid (HC2.out.below hb3 HC2.out.lt); have HB3 : Hid (Below kc w w3) := Lib.hid (HB2.out.trans (hb3.mono (Nat.le_of_lt HC2.out.lt))); clear hy3 hl3 hf3 hb3)
          | (go_at_call 18; with_reducible refine (pos_any _ _ _ _ _ _ HC3.out).mono ?_; rintro r w4 ⟨rfl, rfl⟩)
          | (go_at_call 19; refine (seek_in kc n c 2 Q A _ HC3.out HQN.out hn).mono ?_; rintro r w4 ⟨rfl, hc4, ho4⟩; have HC4 := Lib.hid hc4; have HY4 := Lib.hid (HY3.out.onlyF ho4 HF3.out HC2.out.lt (Nat.le_refl _)); have HS4 := Lib.hid ho4.size; have HB4 : Hid (Below kc w w4) := Lib.hid (HB3.out.trans (ho4.below (Nat.le_of_lt HC3.out.lt))); clear hc4 ho4)
          | (go_at_call 16; refine (HW4.out _ HC4.out HB4.out).mono ?_; rintro r w5 ⟨rfl, hc5, ho5⟩; have HC5 := Lib.hid hc5; have HY5 := Lib.hid ((HY4.out.onlyF ho5 HF3.out HC2.out.lt HS4.out).more (Nat.le_trans HS4.out ho5.size)); have HB5 : Hid (Below kc w w5) := Lib.hid (HB4.out.trans (ho5.below (Nat.le_of_lt HC4.out.lt))); clear hc5 ho5)
          | (go_at_call 20; refine (smAdler _ 1 1 _ _ _ _ _ (part1 w5 A3 _ c3 xo HY5.out) (by omega) (fun i hi => Nat.le_trans HL3.out hM)).mono ?_; rintro r w6 ⟨rfl, hb6⟩; rw [HCAT.out, HMV.out]; have HBA : Hid (Below w5.heap.size w5 w6) := Lib.hid (((Below.refl w5.heap.size w5).alloc (Nat.le_refl _) _).trans (hb6.mono (by simp))); have HC6 := Lib.hid (HC5.out.below HBA.out HC5.out.lt); have HB6 : Hid (Below kc w w6) := Lib.hid (HB5.out.trans (HBA.out.mono (Nat.le_of_lt HC5.out.lt))); have HY6 := Lib.hid ((HY5.out.below HBA.out (Nat.le_refl _)).more HBA.out.size); clear hb6))
    go_ret3
    exact ⟨none, 0, by rw [HU3.out]; rfl, by rw [HU3.out]; exact Byt.none_ _ _, by rw [HU3.out]; exact Nat.zero_le _, HKB.out _ HB6.out⟩
  · have hsum := Decidable.not_not.1 hsum
    rw [if_neg (fun h => h hsum)] at hu
    have HU3 := Lib.hid hu
    subst hsum
    clear hu hlt hQ hxn hnb hnb2 hmb hNV hMV hQ4
    go_enter Tryd.func7, Tryd.ntmps7
    go_wp2_with (first
          | (go_at_call 15; refine HN.out.mono ?_; rintro r w1 ⟨rfl, hc1, hb1⟩; have HC1 := Lib.hid hc1; have HB1 := Lib.hid hb1; clear hc1 hb1)
          | (go_at_call 16; with_reducible refine (HW2L.out _ HC1.out (HKB.out _ HB1.out)).mono ?_; rintro r w2 ⟨rfl, hc2, ho2⟩; have HC2 := Lib.hid hc2; have HB2 : Hid (Below kc w w2) := Lib.hid (HB1.out.trans (ho2.below (Nat.le_of_lt HC1.out.lt))); clear hc2 ho2)
          | (go_at_call 17; refine (HWR.out _).mono ?_; rintro r w3 ⟨rfl, rfl⟩)
          | (go_at_call 18; with_reducible refine (pos_any _ _ _ _ _ _ HC2.out).mono ?_; rintro r w3 ⟨rfl, rfl⟩)
          | (go_at_call 12; refine (HBL.out _ (HKB.out _ HB2.out)).mono ?_; rintro r w3 ⟨A3, c3, rfl, hy3, hl3, hf3, hb3⟩; dsimp only at hy3 hl3 hf3 ⊢; have HY3 := Lib.hid hy3; have HL3 := Lib.hid hl3; have HF3 := Lib.hid hf3; have HC3 := Lib.hid (HC2.out.below hb3 HC2.out.lt); have HB3 : Hid (Below kc w w3) := Lib.hid (HB2.out.trans (hb3.mono (Nat.le_of_lt HC2.out.lt))); clear hy3 hl3 hf3 hb3)
          | (go_at_call 18; with_reducible refine (pos_any _ _ _ _ _ _ HC3.out).mono ?_; rintro r w4 ⟨rfl, rfl⟩)
          | (go_at_call 19; refine (seek_in kc n c 2 Q A _ HC3.out HQN.out hn).mono ?_; rintro r w4 ⟨rfl, hc4, ho4⟩; have HC4 := Lib.hid hc4; have HY4 := Lib.hid (HY3.out.onlyF ho4 HF3.out HC2.out.lt (Nat.le_refl _)); have HS4 := Lib.hid ho4.size; have HB4 : Hid (Below kc w w4) := Lib.hid (HB3.out.trans (ho4.below (Nat.le_of_lt HC3.out.lt))); clear hc4 ho4)
          | (go_at_call 16; refine (HW4.out _ HC4.out HB4.out).mono ?_; rintro r w5 ⟨rfl, hc5, ho5⟩; have HC5 := Lib.hid hc5; have HY5 := Lib.hid ((HY4.out.onlyF ho5 HF3.out HC2.out.lt HS4.out).more (Nat.le_trans HS4.out ho5.size)); have HB5 : Hid (Below kc w w5) := Lib.hid (HB4.out.trans (ho5.below (Nat.le_of_lt HC4.out.lt))); clear hc5 ho5)
          | (go_at_call 20; refine (smAdler _ 1 1 _ _ _ _ _ (part1 w5 A3 _ c3 xo HY5.out) (by omega) (fun i hi => Nat.le_trans HL3.out hM)).mono ?_; rintro r w6 ⟨rfl, hb6⟩; rw [HCAT.out, HMV.out]; have HBA : Hid (Below w5.heap.size w5 w6) := Lib.hid (((Below.refl w5.heap.size w5).alloc (Nat.le_refl _) _).trans (hb6.mono (by simp))); have HC6 := Lib.hid (HC5.out.below HBA.out HC5.out.lt); have HB6 : Hid (Below kc w w6) := Lib.hid (HB5.out.trans (HBA.out.mono (Nat.le_of_lt HC5.out.lt))); have HY6 := Lib.hid ((HY5.out.below HBA.out (Nat.le_refl _)).more HBA.out.size); clear hb6)
          | (go_at_call 18; with_reducible refine (pos_any _ _ _ _ _ _ HC6.out).mono ?_; rintro r w7 ⟨rfl, rfl⟩))
    go_ret3
    refine ⟨A3, c3, ?_, ?_, ?_, HKB.out _ HB6.out⟩
    · rw [HU3.out, HQ6.out]; rfl
    · rw [HU3.out]; exact HY6.out
    · rw [HU3.out]; have := HL3.out; show xo.length ≤ _; omega
end Go.Proofs.YtebbakfjjjamkaaDoor
