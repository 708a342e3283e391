/- Chapter 6: the document's own Base85. -/
import Derived.Test.YtnonldlddgankaaWc6
namespace Go.Proofs.Ytnonldlddgankaa
open Go.RowKit
set_option linter.unusedVariables false
set_option maxRecDepth 100000

/-- The first j of four bytes as a number, noughts behind. -/
def xK (l : List Int) : Nat → Int
  | 0 => 0
  | j + 1 => xK l j * 256 + l.getD j 0
theorem xK4 (l : List Int) : xK l 4 = num4 l := by simp [xK, num4]
theorem getD_rng (l : List Int) (h : ∀ z ∈ l, 0 ≤ z ∧ z < 256) (i : Nat) : 0 ≤ l.getD i 0 ∧ l.getD i 0 < 256 := by
  rcases Nat.lt_or_ge i l.length with hi | hi
  · rw [getD_eq l i hi]; exact h _ (List.getElem_mem hi)
  · rw [show l.getD i 0 = 0 by simp [List.getD, List.getElem?_eq_none hi]]; omega
theorem xK_bd (l : List Int) (h : ∀ z ∈ l, 0 ≤ z ∧ z < 256) (j : Nat) (hj : j < 4) : 0 ≤ xK l j ∧ xK l j < 16777216 := by
  have h0 := getD_rng l h 0
  have h1 := getD_rng l h 1
  have h2 := getD_rng l h 2
  have hj4 : j = 0 ∨ j = 1 ∨ j = 2 ∨ j = 3 := by omega
  rcases hj4 with rfl | rfl | rfl | rfl <;> simp only [xK] <;> omega
theorem or_byte32 (v z : Int) (v0 : 0 ≤ v) (v1 : v < 16777216) (z0 : 0 ≤ z) (z1 : z < 256) : bits .or .u32 (v * 256) z = v * 256 + z := by
  obtain ⟨a, rfl⟩ : ∃ a : Nat, v = a := ⟨v.toNat, by omega⟩
  obtain ⟨b, rfl⟩ : ∃ b : Nat, z = b := ⟨z.toNat, by omega⟩
  have e0 : (a : Int) * 256 = ((a * 256 : Nat) : Int) := by omega
  have f : ∀ x : Nat, x < 4294967296 → (BitVec.ofInt 32 (x : Int)).toNat = x := fun x hx => by
    rw [BitVec.ofInt_natCast, BitVec.toNat_ofNat]; exact Nat.mod_eq_of_lt (by omega)
  rw [e0]
  show IntKind.u32.wrap ((BitVec.ofInt 32 ((a * 256 : Nat) : Int) ||| BitVec.ofInt 32 (b : Int)).toNat : Int) = _
  rw [BitVec.toNat_or, f _ (by omega), f _ (by omega)]
  have h := Nat.two_pow_add_eq_or_of_lt (i := 8) (b := b) (by omega) a
  have e1 : a * 256 ||| b = a * 256 + b := by
    rw [show a * 256 = 2 ^ 8 * a by omega, ← h]
  rw [e1, IntKind.wrap_u32]
  omega
theorem make5 (x : Int) (w : World) : (Instr.makeSlice 23 (.int .i64 5) (.int .i64 5)).run Try.prog w = .ok (.slice (some ⟨w.heap.size, 0, none⟩) 5 5) (w.alloc (.cells (gC x 0) 5)) := by
  obtain ⟨i0, hi, hz0, hz1, hz2⟩ := info_parts info5
  have h := run_make (P := Try.prog) w 23 5 i0 _ Try.underlying23 hi hz0 .i64 .i64 5 5 (by omega) (by omega) (by rw [hz2]; omega) (by omega)
  rw [hz1] at h
  have e : madeCells (Value.int .u8 0).cells (Int.toNat 5 * 1) = gC x 0 := by
    have e2 := toList_madeCells_one (.int .u8 0) 5
    apply Array.toList_inj.1
    exact e2
  rw [e] at h
  exact h
theorem grp_byt8 (w : World) (g : Nat) (x : Int) (m : Nat) (hm : m ≤ 5) (x0 : 0 ≤ x) (hlt : g < w.heap.size) (h : w.heap[g]? = some (.cells (gC x 5) 5 (0, 0))) : Byt w w.heap.size (some ⟨g, 0, none⟩) m 5 ((dg5 x).take m) :=
  ⟨by rw [List.length_take, dg5_len]; omega, hm, fun z hz => by
    have := List.mem_of_mem_take hz
    simp [dg5] at this
    omega, fun _ => ⟨g, 0, rfl, hlt, fun i hi => by
    rw [cell_of_row w g (0 + i) _ 5 (0, 0) h]
    have hi5 : i = 0 ∨ i = 1 ∨ i = 2 ∨ i = 3 ∨ i = 4 := by omega
    have e : ((dg5 x).take m).getD i 0 = (dg5 x).getD i 0 := by simp [List.getD, hi]
    rw [e]
    rcases hi5 with rfl | rfl | rfl | rfl | rfl <;> simp [dg5, gC, Int.add_comm]⟩⟩
/-- The place of a digit, so many laid. -/
def kJ : Nat → Int
  | 0 => 4
  | 1 => 3
  | 2 => 2
  | 3 => 1
  | 4 => 0
  | _ => -1
set_option maxHeartbeats 4000000 in
theorem refBase85 (A : Option Addr) (n c : Nat) (zs : List Int) (w : World) (hb : Byt w w.heap.size A n c zs) (hn : n ≤ 100000) :
    Calls Try.prog 19 #[.slice A n c] w fun r w' => ∃ v, r = .returned v ∧ Mine w' w.heap.size v (b85S zs).length (b85S zs) ∧ Below w.heap.size w w' := by
  have HB := Lib.hid hb
  have HL := Lib.hid hb.len
  clear hb
  go_enter Try.func19, Try.ntmps19
  go_wp2_with fail
  go_loopw [3, 4] (fun vv iv wr => ∃ (k p : Nat), Hid (p = 4 * k) ∧ p < n + 4 ∧ iv = .int .i64 p ∧ Hid (Mine wr w.heap.size vv (b85G zs k).length (b85G zs k)) ∧ Hid (Below w.heap.size w wr)) (fun _ iv _ => n + 4 - (intOf iv).toNat)
  case atStart => exact ⟨0, 0, Lib.hid rfl, by omega, rfl, Lib.hid (Mine.nil _ _), Lib.hid (Below.refl _ _)⟩
  case round =>
    obtain ⟨k, p, HP, hk, rfl, HM, HBE⟩ := hrel
    have hgl := b85G_len zs k
    have hpk := HP.out
    obtain ⟨A3, c3, hv, _⟩ := HM.out.byt
    subst hv
    by_cases hlt : p < n
    · obtain ⟨l, hl⟩ : ∃ l, (zs.drop (4 * k)).take 4 = l := ⟨_, rfl⟩
      obtain ⟨m, hm⟩ : ∃ m, min 4 (n - 4 * k) = m := ⟨_, rfl⟩
      have hll : l.length = m := by rw [← hl, List.length_take, List.length_drop, HL.out]; omega
      have hrg : ∀ z ∈ l, 0 ≤ z ∧ z < 256 := fun z hz => by rw [← hl] at hz; exact HB.out.rng z (List.mem_of_mem_drop (List.mem_of_mem_take hz))
      have hlg : ∀ j, j < m → l.getD j 0 = zs.getD (p + j) 0 := fun j hj => by rw [← hl, hpk]; simp [List.getD, show j < 4 by omega]
      have HGE : Hid (b85G zs (k + 1) = b85G zs k ++ grp85 l) := Lib.hid (by rw [b85G, hl])
      have HLG := Lib.hid hlg
      have HLL := Lib.hid hll
      have HRG := Lib.hid hrg
      have hmin2 : min (4 : Int) ((n : Int) - p) = (m : Int) := by omega
      have hm4 : m ≤ 4 := by omega
      have hm1 : 1 ≤ m := by omega
      have hkm : p + m ≤ n := by omega
      have hgl2 : (b85G zs k).length ≤ 200000 := by omega
      have HMO : Hid (m = 4 ∨ p + 4 < n + 4) := Lib.hid (by omega)
      have hby := HB.out.below HBE.out (Nat.le_refl _)
      have HBY := Lib.hid hby
      clear hl hm hll hrg hlg hpk hgl hby
      go_wp2_with fail
      clear hmin2
      go_loop [6, 7] (fun xv jv => ∃ j : Nat, j ≤ 4 ∧ jv = .int .i64 j ∧ xv = .int .u32 (xK l j)) (fun _ jv => 4 - (intOf jv).toNat)
      case atStart => exact ⟨0, by omega, rfl, rfl⟩
      case round =>
        obtain ⟨j, hj, rfl, rfl⟩ := hrel
        by_cases hj4 : j < 4
        · have hxb := xK_bd l HRG.out j hj4
          have hg := getD_rng l HRG.out j
          have HX1 : Hid (xK l (j + 1) = xK l j * 256 + l.getD j 0) := Lib.hid rfl
          have hj4i : (j : Int) < 4 := by omega
          by_cases hjm : j < m
          · obtain ⟨b, o, rfl, _, hc⟩ := HBY.out.cell (by omega)
            have ck := hc (p + j) (by omega)
            rw [← HLG.out j hjm] at ck
            obtain ⟨z, hz⟩ : ∃ z, l.getD j 0 = z := ⟨_, rfl⟩
            obtain ⟨y, hy⟩ : ∃ y, xK l j = y := ⟨_, rfl⟩
            rw [hz] at ck hg HX1
            rw [hy] at hxb HX1 ⊢
            obtain ⟨z0, z1⟩ := hg
            obtain ⟨y0, y1⟩ := hxb
            have hor := or_byte32 y z y0 y1 z0 z1
            have hpj : (p : Int) + j < n := by omega
            have hjmi : (j : Int) < m := by omega
            have e1 : IntKind.u32.wrap (y * 256) = y * 256 := by rw [IntKind.wrap_u32]; omega
            clear hc hz hy
            go_wp2_with fail
            go_round
            case rel => exact ⟨j + 1, hj4, by go_num, by rw [HX1.out]⟩
            case measure => simp [intOf]; omega
          · have HX2 : Hid (xK l (j + 1) = xK l j * 256) := Lib.hid (by rw [HX1.out, show l.getD j 0 = 0 by simp [List.getD, List.getElem?_eq_none (show l.length ≤ j by rw [HLL.out]; omega)]]; omega)
            obtain ⟨y, hy⟩ : ∃ y, xK l j = y := ⟨_, rfl⟩
            rw [hy] at hxb HX2 ⊢
            obtain ⟨y0, y1⟩ := hxb
            have e1 : IntKind.u32.wrap (y * 256) = y * 256 := by rw [IntKind.wrap_u32]; omega
            have hjmi : ¬ (j : Int) < m := by omega
            clear hy hg HX1
            go_wp2_with fail
            go_round
            case rel => exact ⟨j + 1, hj4, by go_num, by rw [HX2.out]⟩
            case measure => simp [intOf]; omega
        · obtain rfl : j = 4 := by omega
          have hnb := num4_bd l HRG.out
          rw [xK4]
          obtain ⟨x, hx⟩ : ∃ x, num4 l = x := ⟨_, rfl⟩
          rw [hx] at hnb ⊢
          obtain ⟨x0, x1⟩ := hnb
          by_cases hz : x = 0 ∧ m = 4
          · obtain ⟨rfl, rfl⟩ := hz
            have HG2 : Hid (b85G zs (k + 1) = b85G zs k ++ [122]) := Lib.hid (by rw [HGE.out]; unfold grp85; rw [if_pos ⟨hx, HLL.out⟩])
            have HAP := Lib.hid ((HM.out.kept ((Below.refl _ _).alloc (Nat.le_refl _) (.cells #[.int .u8 122] 5))).appendT (byt_lit0 _ 122 (by omega)) 23 (by omega) (Nat.le_trans HBE.out.size (by simp)))
            clear hx hj4
            go_wp2_with (first | (at_builtin; obtain ⟨v7, w7, hrun, hm7, hb7, _⟩ := HAP.out; obtain ⟨A7, c7, rfl, _⟩ := hm7.byt; refine Lib.wpList_append_run_sl _ rfl (.tmp 45) (.tmp 46) 23 rfl _ _ rfl rfl hrun ?_; clear hrun; have HM7 := Lib.hid hm7; have HB7 := Lib.hid ((HBE.out.alloc HBE.out.size _).trans hb7); clear hm7 hb7))
            go_roundw
            case rel => exact ⟨k + 1, p + 4, Lib.hid (by have := HP.out; omega), by omega, by go_num, by rw [HG2.out, List.length_append]; exact HM7, HB7⟩
            case measure => simp [intOf]; omega
          · have HG2 : Hid (b85G zs (k + 1) = b85G zs k ++ (dg5 x).take (m + 1)) := Lib.hid (by rw [HGE.out]; unfold grp85; rw [if_neg (fun h => hz ⟨hx.symm.trans h.1, HLL.out.symm.trans h.2⟩), HLL.out, hx])
            have hcs : (x == 0) = false ∨ ((x == 0) = true ∧ ((m : Int) == 4) = false) := by
              by_cases h0 : x = 0
              · exact .inr ⟨beq_iff_eq.2 h0, beq_eq_false_iff_ne.2 (by omega)⟩
              · exact .inl (beq_eq_false_iff_ne.2 h0)
            have hmk := make5 x wr
            have hrw0 := heap_alloc_new wr (.cells (gC x 0) 5)
            have hgl3 := HM.out.lt
            obtain ⟨W1, hW1⟩ : ∃ W1, wr.alloc (.cells (gC x 0) 5) = W1 := ⟨_, rfl⟩
            obtain ⟨g, hg⟩ : ∃ g, wr.heap.size = g := ⟨_, rfl⟩
            have hM1 : Mine W1 w.heap.size (.slice A3 (b85G zs k).length c3) (b85G zs k).length (b85G zs k) := by rw [← hW1]; exact HM.out.kept ((Below.refl _ _).alloc (Nat.le_refl _) _)
            have hB1 : Below w.heap.size w W1 := by rw [← hW1]; exact HBE.out.alloc HBE.out.size _
            have hsz1 : W1.heap.size = g + 1 := by rw [← hW1, World.size_alloc, hg]
            rw [hW1] at hmk hrw0
            rw [hg] at hmk hrw0 hgl3
            have HRW0 := Lib.hid hrw0
            have HM1 := Lib.hid hM1
            have HB1 := Lib.hid hB1
            have HSZ1 := Lib.hid hsz1
            have HGL3 := Lib.hid hgl3
            have HWG : Hid (w.heap.size ≤ g) := Lib.hid (by rw [← hg]; exact HBE.out.size)
            clear hx hj4 hz hrw0 hgl3 hW1 hg hM1 hB1 hsz1
            rcases hcs with hc1 | ⟨hc1, hc2⟩
            all_goals
              go_wp2_with fail
              go_loopw [6, 9] (fun xv kv ws => ∃ j : Nat, j ≤ 5 ∧ kv = .int .i64 (kJ j) ∧ xv = .int .u32 (qK x j) ∧ Hid (ws.heap[g]? = some (.cells (gC x j) 5 (0, 0))) ∧ Hid (Only g W1 ws)) (fun _ kv _ => (intOf kv + 1).toNat)
              case atStart => exact ⟨0, by omega, rfl, rfl, HRW0, Lib.hid (Only.refl _ _)⟩
              case round =>
                obtain ⟨j, hj5, rfl, rfl, HR, HO⟩ := hrel
                by_cases hlt5 : j < 5
                · have hj4 : j = 0 ∨ j = 1 ∨ j = 2 ∨ j = 3 ∨ j = 4 := by omega
                  have hf : wr.frozen? ⟨g, 4 - j, none⟩ = false := by simp [World.frozen?, HR.out]
                  have hcl : ∃ u, wr.cell? ⟨g, 4 - j, none⟩ = some u := by
                    rw [cell_of_row wr g (4 - j) _ 5 (0, 0) HR.out]
                    rcases hj4 with rfl | rfl | rfl | rfl | rfl <;> exact ⟨_, rfl⟩
                  obtain ⟨u, hcl⟩ := hcl
                  have HST := Lib.hid (fun v => cell_set wr g (4 - j) _ 5 v HR.out)
                  rcases hj4 with rfl | rfl | rfl | rfl | rfl
                  all_goals
                    simp only [qK, kJ] at *
                    have hq1 : x / 85 ≤ 4294967295 ∧ 0 ≤ x / 85 ∧ 0 ≤ x / 7225 ∧ 0 ≤ x / 614125 ∧ 0 ≤ x / 52200625 ∧ x / 7225 ≤ 4294967295 ∧ x / 614125 ≤ 4294967295 ∧ x / 52200625 ≤ 4294967295 := by omega
                    obtain ⟨g1, g2, g3, g4, g5, g6, g7, g8⟩ := hq1
                    go_wp2_with fail
                    exact ⟨⟨_, hlt5, rfl, (by first | rfl | (congr 1; show _ = (_ : Int) / _; omega)), Lib.hid (HST.out _), Lib.hid (HO.out.set_ _ _)⟩, by simp [intOf]⟩
                · obtain rfl : j = 5 := by omega
                  have hsz := HO.out.size
                  have hm1 := HM1.out.same6 (w' := wr) (fun b hb hlt => HO.out.block b hlt (by have := HGL3.out b hb; omega))
                  have hbw : Below w.heap.size w wr := HB1.out.trans (HO.out.belowB HWG.out (by have := HSZ1.out; omega))
                  have hby := grp_byt8 wr g x (m + 1) (by omega) x0 (by have := HSZ1.out; omega) HR.out
                  have HAP := Lib.hid (hm1.appendT hby 23 (by omega) hbw.size)
                  have HBW := Lib.hid hbw
                  have hm5 : m + 1 ≤ 5 := by omega
                  clear hm1 hbw hby hsz hlt5
                  simp only [kJ] at *
                  go_wp2_with (first | (at_builtin; obtain ⟨v7, w7, hrun, hm7, hb7, _⟩ := HAP.out; obtain ⟨A7, c7, rfl, _⟩ := hm7.byt; refine Lib.wpList_append_run_sl _ rfl (.tmp 62) (.tmp 66) 23 rfl _ _ rfl rfl hrun ?_; clear hrun; have HM7 := Lib.hid hm7; have HB7 := Lib.hid (HBW.out.trans hb7); clear hm7 hb7))
                  exact ⟨⟨k + 1, p + 4, Lib.hid (by have := HP.out; omega), by omega, by go_num, Lib.hid (by rw [HG2.out, List.length_append, List.length_take, dg5_len, show min (m + 1) 5 = m + 1 by omega]; exact HM7.out), HB7⟩, by simp [intOf]; omega⟩
    · have HE : Hid (b85S zs = b85G zs k ++ [126, 62]) := Lib.hid (by unfold b85S; rw [HL.out, show (n + 3) / 4 = k by omega])
      have HLN : Hid ((b85S zs).length = (b85G zs k).length + 2) := Lib.hid (by rw [HE.out]; simp only [List.length_append, List.length_cons, List.length_nil])
      have HAP := Lib.hid ((HM.out.kept ((Below.refl _ _).alloc (Nat.le_refl _) (.cells #[.int .u8 126, .int .u8 62] 5))).appendT (byt_two wr 126 62 (by omega) (by omega)) 23 (by omega) (Nat.le_trans HBE.out.size (by simp)))
      clear hpk hgl
      go_wp2_with (first | (at_builtin; obtain ⟨v7, w7, hrun, hm7, hb7, _⟩ := HAP.out; obtain ⟨A7, c7, rfl, _⟩ := hm7.byt; refine Lib.wpList_append_run_sl _ rfl (.tmp 68) (.tmp 69) 23 rfl _ _ rfl rfl hrun ?_; clear hrun; have HM7 := Lib.hid hm7; have HB7 := Lib.hid ((HBE.out.alloc HBE.out.size _).trans hb7); clear hm7 hb7))
      go_ret
      exact ⟨_, rfl, by rw [HLN.out, HE.out]; exact HM7.out, HB7.out⟩
end Go.Proofs.Ytnonldlddgankaa
