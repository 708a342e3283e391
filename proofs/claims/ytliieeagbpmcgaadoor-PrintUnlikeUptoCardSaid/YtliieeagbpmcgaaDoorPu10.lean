/- Contracts of functions that the law calls, and what they lean on (a part). -/
import Derived.Deep.QuietTactic
import Derived.BigQuiet
import Derived.WalkSpells
import Derived.Deep.Cut
import Derived.Deep.CutBlock
import Derived.Deep.LoopGhost
import Derived.Deep.DeepFit
import Derived.StillTailTactics
import Derived.Deep.RegionLaw
import Derived.Test.YtliieeagbpmcgaaDoorPu4
namespace Go.Proofs.YtliieeagbpmcgaaDoor
section
open Go.RowKit
set_option linter.unusedVariables false
set_option maxRecDepth 100000
/-- An append whose run is known, as one step of a region that draws. -/
theorem step_append_run6 {P : Program} {ops : Array Oper} {o : Oper} {a : Act} {w w' : World} {K : Act → World → Prop} {Q : Exit → Act → World → Prop} {E : Prop} {v : Value}
    (hg : o.guard = none) (s x : Operand) (t : TypeId) (hop : o.op = Op.call { callee := Callee.builtin Builtin.append, args := #[s, x], argTypes := #[t, t] }) (vs vx : Value) (hs : a.eval s = vs) (hx : a.eval x = vx)
    (hrun : (Builtin.append_ #[t, t] o.type #[vs, vx]).run P w = .ok v w') (hK : K (a.put o.dst v) w') :
    if Region.wanted o (yielded ops a.tmps) = true then Oper.wp P o a w K Q else E := by
  have hw : Region.wanted o (yielded ops a.tmps) = true := by simp [Region.wanted, hg]
  rw [if_pos hw]
  unfold Oper.wp
  simp [execOp, hop, resolve, invoke, builtin, hs, hx, hrun, Result.andThen]
  exact hK
theorem make_row6 (n : Nat) (w : World) (hn : n ≤ 1000000) : ∃ W1, (Instr.makeSlice 22 (.int .i64 0) (.int .i64 (n : Int))).run Tryd.prog w = .ok (.slice (some ⟨w.heap.size, 0, none⟩) 0 n) W1 ∧ Mine W1 w.heap.size (.slice (some ⟨w.heap.size, 0, none⟩) 0 n) 0 [] ∧ Below w.heap.size w W1 := by
  obtain ⟨i0, hi, hz0, hz1, hz2⟩ := info_parts info5
  obtain ⟨w', hr, ho, hg⟩ := run_make_own (P := Tryd.prog) (w := w) w.heap.size 22 5 i0 _ 1 Tryd.underlying22 hi hz0 hz1 .i64 .i64 n (by rw [hz2]; omega) (by simp only [maxLen]; omega) (Nat.le_refl _)
  exact ⟨w', hr, ⟨by simpa using ho, fun _ h => by cases h⟩, ⟨hg.os, hg.tape, hg.output, hg.size, fun k hk => hg.block k hk (by simp)⟩⟩
theorem and15 (z : Int) (h0 : 0 ≤ z) (h1 : z < 256) : bits .and .u8 z 15 = z % 16 := by
  have : ∀ k : Fin 256, bits .and .u8 (k.val : Int) 15 = (k.val : Int) % 16 := by decide +kernel
  have h := this ⟨z.toNat, by omega⟩
  have e : ((z.toNat : Nat) : Int) = z := by omega
  simp only [e] at h
  exact h
theorem idx_hex (K : Nat) (hK : K < 16) : ∀ w : World, (Instr.index 9 (.string ⟨#[48, 49, 50, 51, 52, 53, 54, 55, 56, 57, 97, 98, 99, 100, 101, 102]⟩) (.int .u8 (K : Int))).run Tryd.prog w = .ok (.int .u8 (hxD (K : Int))) w := by
  rcases (show K = 0 ∨ K = 1 ∨ K = 2 ∨ K = 3 ∨ K = 4 ∨ K = 5 ∨ K = 6 ∨ K = 7 ∨ K = 8 ∨ K = 9 ∨ K = 10 ∨ K = 11 ∨ K = 12 ∨ K = 13 ∨ K = 14 ∨ K = 15 by omega) with rfl | rfl | rfl | rfl | rfl | rfl | rfl | rfl | rfl | rfl | rfl | rfl | rfl | rfl | rfl | rfl
  · exact fun _ => by kernel_rfl
  · exact fun _ => by kernel_rfl
  · exact fun _ => by kernel_rfl
  · exact fun _ => by kernel_rfl
  · exact fun _ => by kernel_rfl
  · exact fun _ => by kernel_rfl
  · exact fun _ => by kernel_rfl
  · exact fun _ => by kernel_rfl
  · exact fun _ => by kernel_rfl
  · exact fun _ => by kernel_rfl
  · exact fun _ => by kernel_rfl
  · exact fun _ => by kernel_rfl
  · exact fun _ => by kernel_rfl
  · exact fun _ => by kernel_rfl
  · exact fun _ => by kernel_rfl
  · exact fun _ => by kernel_rfl
theorem idx_hexZ (a : Int) (h0 : 0 ≤ a) (h1 : a < 16) (w : World) : (Instr.index 9 (.string ⟨#[48, 49, 50, 51, 52, 53, 54, 55, 56, 57, 97, 98, 99, 100, 101, 102]⟩) (.int .u8 a)).run Tryd.prog w = .ok (.int .u8 (hxD a)) w := by
  have h := idx_hex a.toNat (by omega) w
  rw [show ((a.toNat : Nat) : Int) = a by omega] at h
  exact h
theorem byt_two (w : World) (a b : Int) (ha : 0 ≤ a ∧ a < 256) (hb : 0 ≤ b ∧ b < 256) : Byt (w.alloc (.cells #[.int .u8 a, .int .u8 b] 5)) (w.heap.size + 1) (some ⟨w.heap.size, 0, none⟩) 2 2 [a, b] :=
  byt_lit w (0, 0) [a, b] (fun y hy => by simp at hy; omega) 2 rfl _ rfl
set_option maxHeartbeats 2000000 in
theorem pHex (A : Option Addr) (n c : Nat) (zs : List Int) (w : World) (hb : Byt w w.heap.size A n c zs) (hn : n ≤ 100000) :
    Calls Tryd.prog 58 #[.slice A n c] w fun r w' => ∃ v, r = .returned v ∧ Mine w' w.heap.size v (hexS zs).length (hexS zs) ∧ Below w.heap.size w w' := by
  have HB := Lib.hid hb
  have HL := Lib.hid hb.len
  obtain ⟨W1, hmk, hm1, hb1⟩ := make_row6 (2 * n + 1) w (by omega)
  have hmk2 : (Instr.makeSlice 22 (.int .i64 0) (.int .i64 (2 * (n : Int) + 1))).run Tryd.prog w = .ok (.slice (some ⟨w.heap.size, 0, none⟩) 0 (2 * n + 1)) W1 := by
    rw [← hmk]; congr 3
  have HM1 := Lib.hid hm1
  have HB1 := Lib.hid hb1
  clear hb hmk hm1 hb1
  go_enter Tryd.func58, Tryd.ntmps58
  go_wp2_with fail
  go_loopw [3, 5, 13] (fun vv sv iv wr => ∃ k : Nat, k ≤ n ∧ iv = .int .i64 k ∧ Hid (Mine wr w.heap.size vv (2 * k) (hxB (zs.take k))) ∧ Hid (Below w.heap.size w wr)) (fun _ _ iv _ => n - (intOf iv).toNat)
  case atStart => exact ⟨0, Nat.zero_le _, rfl, HM1, HB1⟩
  case round =>
    obtain ⟨k, hk, rfl, HM, HBE⟩ := hrel
    by_cases hlt : k < n
    · have hby := HB.out.below HBE.out (Nat.le_refl _)
      have hz := HB.out.getD k
      obtain ⟨b, o, rfl, _, hc⟩ := hby.cell (by omega)
      have ck := hc k hlt
      have hts := take_snocZ zs k (by rw [HL.out]; exact hlt)
      obtain ⟨z, hzz⟩ : ∃ z, zs.getD k 0 = z := ⟨_, rfl⟩
      rw [hzz] at ck hz hts
      obtain ⟨z0, z1⟩ := hz
      have hx1 := hxD_ok (z / 16) (by omega) (by omega)
      have hx2 := hxD_ok (z % 16) (by omega) (by omega)
      have i1 := idx_hexZ (z / 16) (by omega) (by omega)
      have i2 := idx_hexZ (z % 16) (by omega) (by omega)
      have ha := and15 z z0 z1
      have HAP := Lib.hid (fun q => ((HM.out.drewN q).kept ((Below.refl _ _).alloc (Nat.le_refl _) (.cells #[.int .u8 (hxD (z / 16)), .int .u8 (hxD (z % 16))] 5))).appendT (byt_two (wr.drewN q) _ _ (by omega) (by omega)) 22 (by omega) (Nat.le_trans HBE.out.size (by simp)))
      have HT : Hid (hxB (zs.take (k + 1)) = hxB (zs.take k) ++ [hxD (z / 16), hxD (z % 16)]) := Lib.hid (by rw [hts, hxB_app]; rfl)
      obtain ⟨A3, c3, hv, _⟩ := HM.out.byt
      subst hv
      clear hby hc hts hzz hx1 hx2
      go_wp2_with fail
      obtain ⟨v6, w6, hrun, hm6, hb6, _⟩ := HAP.out 1
      obtain ⟨A6, c6, rfl, _⟩ := hm6.byt
      have HRUN := Lib.hid hrun
      have HM6 := Lib.hid hm6
      have HB6 := Lib.hid (((below_drewN HBE.out 1).alloc (Nat.le_trans HBE.out.size (Nat.le_refl _)) _).trans hb6)
      have e1 : IntKind.u8.wrap (z / 16) = z / 16 := by rw [IntKind.wrap_u8]; omega
      have e2 : (z / 16).toNat < 16 := by omega
      clear hrun hm6 hb6
      go_region_law (refine step_append_run6 rfl (.tmp 17) (.tmp 24) 22 rfl _ _ rfl rfl HRUN.out ?_)
      all_goals
        go_wp2_with fail
        go_roundw
        case rel => exact ⟨k + 1, hlt, by go_num, Lib.hid (by rw [HT.out, show 2 * (k + 1) = 2 * k + 2 by omega]; exact HM6.out), HB6⟩
        case measure => simp [intOf]; omega
    · obtain rfl : k = n := by omega
      have HAP := Lib.hid ((HM.out.kept ((Below.refl _ _).alloc (Nat.le_refl _) (.cells #[.int .u8 62] 5))).appendT (byt_lit0 wr 62 (by omega)) 22 (by omega) (Nat.le_trans HBE.out.size (by simp)))
      have HT : Hid (hexS zs = hxB (zs.take k) ++ [62]) := Lib.hid (by rw [List.take_of_length_le (by rw [HL.out]; exact Nat.le_refl _)]; rfl)
      have HTL : Hid ((hexS zs).length = 2 * k + 1) := Lib.hid (by unfold hexS; rw [List.length_append, hxB_len, HL.out]; rfl)
      have HBE2 := Lib.hid (HBE.out.alloc HBE.out.size (.cells #[.int .u8 62] 5))
      obtain ⟨A3, c3, hv, _⟩ := HM.out.byt
      subst hv
      go_wp2_with (first
        | (at_builtin; obtain ⟨v6, w6, hrun, hmi6, hbe6, _⟩ := HAP.out; obtain ⟨A6, c6, rfl, _⟩ := hmi6.byt; refine Lib.wpList_append_run_sl _ rfl (.tmp 27) (.tmp 28) 22 rfl _ _ rfl rfl hrun ?_; clear hrun; have HM6 := Lib.hid hmi6; have HB6 := Lib.hid (HBE2.out.trans hbe6); clear hmi6 hbe6))
      go_ret
      exact ⟨_, rfl, by rw [HTL.out, HT.out]; exact HM6.out, HB6.out⟩
/-- '[]byte(s)'. -/
theorem str_bytes6 (ys : List Int) (hr : ∀ z ∈ ys, 0 ≤ z ∧ z < 256) (w : World) : ∃ (cc : Nat) (ww : World),
    (convert 9 22 (.string (strOfNums ys))).run Tryd.prog w = .ok (.slice (some ⟨w.heap.size, 0, none⟩) ys.length cc) ww ∧
    Byt ww ww.heap.size (some ⟨w.heap.size, 0, none⟩) ys.length cc ys ∧ Below w.heap.size w ww := by
  obtain ⟨S, hS⟩ : ∃ S, strOfNums ys = S := ⟨_, rfl⟩
  have hsz : S.size = ys.length := by rw [← hS]; exact strOfNums_size ys
  have h := run_bytes_of_string (P := Tryd.prog) w 9 22 5 S Tryd.underlying9 Tryd.underlying22 Tryd.underlying5
  rw [hsz] at h
  rw [hS]
  refine ⟨_, _, h, ⟨rfl, ?_, hr, fun h0 => ⟨w.heap.size, 0, rfl, by simp, fun i hi => ?_⟩⟩, (below_drewN (Below.refl w.heap.size w) 1).alloc (Nat.le_refl _) _⟩
  · exact grownCap_ge w ys.length 0 _
  · have hs : w.drew.heap.size = w.heap.size := rfl
    rw [← hs, World.cell?_alloc_mark, Nat.zero_add]
    have hi3 : i < S.data.size := by rw [← hsz] at hi; exact hi
    have e : S.data[i] = UInt8.ofNat (ys.getD i 0).toNat := by
      subst hS
      simp [strOfNums, List.getD, hi]
    have hb := hr _ (List.getElem_mem hi)
    rw [← getD_eq ys i hi] at hb
    obtain ⟨y, hy⟩ : ∃ y, ys.getD i 0 = y := ⟨_, rfl⟩
    rw [hy] at hb e ⊢
    have e2 : (((UInt8.ofNat y.toNat).toNat : Nat) : Int) = y := by simp; omega
    simp only [bytesRow, Array.getElem?_append]
    rw [if_pos (by simpa using hi3), Array.getElem?_map, Array.getElem?_eq_getElem hi3, e, Option.map_some, e2]
end
end Go.Proofs.YtliieeagbpmcgaaDoor
