/- Contracts of functions that the law calls, and what they lean on (a part). -/
import Derived.Laws.IdiomStrings
import Derived.Lib.SlBytesConst
import Derived.Test.YtliieeagbpmcgaaDoorPu3
namespace Go.Proofs.YtliieeagbpmcgaaDoor
section
open Go.RowKit
set_option linter.unusedVariables false
set_option maxRecDepth 100000
/-- A block of bytes that the call made. -/
theorem byt_lit (w : World) (fr : Nat × Nat) (zs : List Int) (hr : ∀ z ∈ zs, 0 ≤ z ∧ z < 256) (n : Nat) (hn : zs.length = n) (C : Array Value) (hC : C = (zs.map (Value.int .u8)).toArray) :
    Byt (w.alloc (.cells C 5 fr)) (w.heap.size + 1) (some ⟨w.heap.size, 0, none⟩) n n zs := by
  refine ⟨hn, Nat.le_refl _, hr, fun _ => ⟨w.heap.size, 0, rfl, by omega, fun i hi => ?_⟩⟩
  rw [World.cell?_alloc_mark, hC, Nat.zero_add]
  simp [List.getD, hn, hi]
end

section
open Go.RowKit
set_option linter.unusedVariables false
set_option maxRecDepth 100000
theorem Mine.kept {w w' : World} {base p : Nat} {v : Value} {zs : List Int} (h : Mine w base v p zs) (hb : Below w.heap.size w w') : Mine w' base v p zs := by
  refine ⟨⟨h.own.1, ?_⟩, h.rng⟩
  rcases h.own.2 with h0 | ⟨b, cap, cur, hv, hbb, hh, hr⟩
  · exact .inl h0
  · refine .inr ⟨b, cap, cur, hv, hbb, ?_, hr⟩
    have hlt : b < w.heap.size := by
      rcases Nat.lt_or_ge b w.heap.size with hlt | hge
      · exact hlt
      · rw [Array.getElem?_eq_none hge] at hh; cases hh
    rw [hb.block b hlt]
    exact hh
theorem byt_lit0 (w : World) (z : Int) (hz : 0 ≤ z ∧ z < 256) : Byt (w.alloc (.cells #[.int .u8 z] 5)) (w.heap.size + 1) (some ⟨w.heap.size, 0, none⟩) 1 1 [z] :=
  byt_lit w (0, 0) [z] (fun y hy => by simp at hy; subst hy; exact hz) 1 rfl _ rfl
set_option maxRecDepth 100000 in
set_option maxHeartbeats 1000000 in
theorem refCopy (A : Option Addr) (n c : Nat) (zs : List Int) (w : World) (hb : Byt w w.heap.size A n c zs) (hn : n ≤ 100000000) :
    Calls Tryd.prog 19 #[.slice A n c] w fun e w' => ∃ v, e = .returned v ∧ Mine w' w.heap.size v n zs ∧ Below w.heap.size w w' := by
  have HB := Lib.hid hb
  clear hb
  go_enter Tryd.func19, Tryd.ntmps19
  go_wp2
  go_loopw [3, 4] (fun v i wr => ∃ k : Nat, k ≤ n ∧ i = .int .i64 k ∧ Hid (Mine wr w.heap.size v k (zs.take k)) ∧ Hid (Below w.heap.size w wr)) (fun _ i _ => n - (intOf i).toNat)
  case atStart => exact ⟨0, Nat.zero_le _, rfl, Mine.nil _ _, Below.refl _ _⟩
  case round =>
    obtain ⟨k, hk, rfl, hmi, hbe⟩ := hrel
    by_cases hlt : k < n
    · have hby := HB.out.below hbe.out (Nat.le_refl _)
      obtain ⟨b, o, rfl, _, hc⟩ := hby.cell (by omega)
      have ck := hc k hlt
      have hgz := HB.out.getD k
      have HT : Hid (zs.take (k + 1) = zs.take k ++ [zs.getD k 0]) := Lib.hid (take_snocZ zs k (by rw [HB.out.len]; exact hlt))
      obtain ⟨z, hz⟩ : ∃ z, zs.getD k 0 = z := ⟨_, rfl⟩
      rw [hz] at ck hgz HT
      have HAP := Lib.hid ((hmi.out.kept ((Below.refl _ _).alloc (Nat.le_refl _) (.cells #[.int .u8 z] 5))).append (byt_lit0 wr z hgz) 22 (by omega) (Nat.le_trans hbe.out.size (by simp)))
      obtain ⟨A6, c6, rfl, _⟩ := hmi.out.byt
      clear hby hc hz
      go_wp2_with (first
        | (at_builtin; obtain ⟨v6, w6, hrun, hmi6, hbe6⟩ := HAP.out; refine Lib.wpList_append_run_sl _ rfl (.tmp 11) (.tmp 16) 22 rfl _ _ rfl rfl hrun ?_; clear hrun; have HBE6 := Lib.hid hbe6; have HMI6 := Lib.hid hmi6; clear hbe6 hmi6))
      go_roundw
      case rel => exact ⟨k + 1, by omega, by go_num, Lib.hid (by rw [HT.out]; exact HMI6.out), Lib.hid ((hbe.out.alloc hbe.out.size _).trans HBE6.out)⟩
      case measure => simp [intOf]; omega
    · obtain rfl : k = n := by omega
      rw [List.take_of_length_le (by rw [HB.out.len]; exact Nat.le_refl _)] at hmi
      go_wp2
      go_ret
      exact ⟨_, rfl, hmi.out, hbe.out⟩
end

section
open Go.RowKit
set_option linter.unusedVariables false
set_option maxRecDepth 100000
theorem Mine.lt {w : World} {base p : Nat} {v : Value} {zs : List Int} (h : Mine w base v p zs) (b : Nat) (hb : v.ownBlock = some b) : b < w.heap.size := by
  rcases h.own.2 with ⟨rfl, _⟩ | ⟨b', cap, cur, rfl, _, hh, _⟩
  · cases hb
  · injection hb with hb
    dsimp only at hb
    subst hb
    rcases Nat.lt_or_ge b' w.heap.size with hlt | hge
    · exact hlt
    · rw [Array.getElem?_eq_none hge] at hh; cases hh
/-- More bytes behind a row of one's own: which block may change, where the new row lies. -/
theorem Mine.appendT {w : World} {base p : Nat} {v : Value} {zs : List Int} (h : Mine w base v p zs) {B m c : Nat} {A : Option Addr} {ys : List Int} (hy : Byt w B A m c ys) (ty : TypeId) (hb : p + m ≤ 140737488355328) (hbase : base ≤ w.heap.size) :
    ∃ v' w', (Builtin.append_ #[22, 22] ty #[v, .slice A m c]).run Tryd.prog w = .ok v' w' ∧ Mine w' base v' (p + m) (zs ++ ys) ∧ Below base w w' ∧
      (∀ k, k < w.heap.size → v.ownBlock ≠ some k → w'.heap[k]? = w.heap[k]?) ∧ w.heap.size ≤ w'.heap.size ∧ (∀ b, v'.ownBlock = some b → v.ownBlock = some b ∨ w.heap.size ≤ b) := by
  obtain ⟨i0, hi, hz0, hz1, hz2⟩ := info_parts info5
  have hrng : ∀ z ∈ zs ++ ys, 0 ≤ z ∧ z < 256 := fun z hz => by
    rcases List.mem_append.1 hz with hz | hz
    · exact h.rng z hz
    · exact hy.rng z hz
  have key : m = 0 ∨ 0 < m := by omega
  rcases A with _ | a
  · have h0 : m = 0 := by
      rcases key with h0 | h0
      · exact h0
      · obtain ⟨b, o, e, _⟩ := hy.cell h0
        cases e
    subst h0
    have hn : ys = [] := List.eq_nil_of_length_eq_zero hy.len
    subst hn
    refine ⟨v, w, ?_, by simpa using h, Below.refl _ _, fun _ _ _ => rfl, Nat.le_refl _, fun b hb => .inl hb⟩
    rcases h.own.2 with ⟨rfl, _⟩ | ⟨b, cap, cur, rfl, _, _, hnc, _⟩
    · simp [Builtin.append_, run_underlying Tryd.underlying22, sizeOf, typeInfo, hi, Builtin.lenOf, Builtin.firstCells]
    · simp [Builtin.append_, run_underlying Tryd.underlying22, sizeOf, typeInfo, hi, Builtin.lenOf, Builtin.firstCells, hnc, storeCells]
  · have hcell : ∀ j u, (ys.map (Value.int .u8))[j]? = some u → w.cell? (a.add j) = some u := by
      intro j u hj
      have hjl : j < ys.length := by have := (List.getElem?_eq_some_iff.1 hj).1; simpa using this
      have hyl := hy.len
      obtain ⟨b, o, e, _, hc⟩ := hy.cell (by omega)
      injection e with e
      subst e
      have e2 : (⟨b, o, none⟩ : Addr).add j = ⟨b, o + j, none⟩ := by unfold Addr.add; split <;> simp_all
      rw [e2, hc j (by omega), ← hj]
      simp [List.getD, hjl]
    obtain ⟨v', w', hr, hown, hgr, _, hat⟩ := run_append_own_at (P := Tryd.prog) w base 22 ty 5 i0 _ 1 1 Tryd.underlying22 hi hz0 hz1 hz2 rfl (by omega) v p _ h.own a m c (ys.map (Value.int .u8))
      (by simp [hy.len]) hcell (fun u hu => by obtain ⟨x, _, rfl⟩ := List.mem_map.1 hu; rfl) (by simp only [maxLen]; omega) (by omega) hbase
    refine ⟨v', w', hr, ⟨by simpa using hown, hrng⟩, ⟨hgr.os, hgr.tape, hgr.output, hgr.size, fun k hk => hgr.block k (Nat.lt_of_lt_of_le hk hbase) (fun e => ?_)⟩, fun k hk hne => hgr.block k hk (fun e => hne e.symm), hgr.size, fun b hb => ?_⟩
    · rcases h.own.2 with ⟨rfl, _⟩ | ⟨b, cap, cur, rfl, hb, _⟩
      · simp [Value.ownBlock] at e
      · simp [Value.ownBlock] at e
        omega
    · rcases hat with h1 | h1
      · exact .inl (by rw [← h1, hb])
      · rw [hb] at h1; injection h1 with h1; exact .inr (by omega)
end

section
open Go.RowKit
set_option linter.unusedVariables false
set_option maxRecDepth 100000
/-- Of what was there, the row's own block alone may have changed; the new row lies there or in new memory. -/
structure KeepX (v : Value) (w : World) (v' : Value) (w' : World) : Prop where
  os : w'.os = w.os
  tape : w'.tape = w.tape
  output : w'.output = w.output
  size : w.heap.size ≤ w'.heap.size
  block : ∀ i, i < w.heap.size → v.ownBlock ≠ some i → w'.heap[i]? = w.heap[i]?
  own : ∀ b, v'.ownBlock = some b → v.ownBlock = some b ∨ w.heap.size ≤ b
section
variable {v v' v'' : Value} {w w' w'' : World}
theorem KeepX.refl (v : Value) (w : World) : KeepX v w v w := ⟨rfl, rfl, rfl, Nat.le_refl _, fun _ _ _ => rfl, fun _ h => .inl h⟩
theorem KeepX.trans (h : KeepX v w v' w') (k : KeepX v' w' v'' w'') : KeepX v w v'' w'' := by
  refine ⟨k.os.trans h.os, k.tape.trans h.tape, k.output.trans h.output, Nat.le_trans h.size k.size, fun i hi hne => (k.block i (Nat.lt_of_lt_of_le hi h.size) (fun e => ?_)).trans (h.block i hi hne), fun b hb => ?_⟩
  · rcases h.own i e with h1 | h1
    · exact hne h1
    · omega
  · rcases k.own b hb with h1 | h1
    · exact h.own b h1
    · exact .inr (Nat.le_trans h.size h1)
theorem KeepX.below (h : KeepX v w v' w') {base : Nat} (hb : base ≤ w.heap.size) (ho : ∀ b, v.ownBlock = some b → base ≤ b) : Below base w w' :=
  ⟨h.os, h.tape, h.output, h.size, fun k hk => h.block k (Nat.lt_of_lt_of_le hk hb) (fun e => by have := ho k e; omega)⟩
theorem KeepX.start (h : KeepX v w' v' w'') (hb : Below w.heap.size w w') : KeepX v w v' w'' :=
  ⟨h.os.trans hb.os, h.tape.trans hb.tape, h.output.trans hb.output, Nat.le_trans hb.size h.size, fun i hi hne => (h.block i (Nat.lt_of_lt_of_le hi hb.size) hne).trans (hb.block i hi),
    fun b hb' => by
      rcases h.own b hb' with h1 | h1
      · exact .inl h1
      · exact .inr (Nat.le_trans hb.size h1)⟩
end
/-- A slice lies not in the row's own block. -/
def Off (v : Value) (A : Option Addr) (n : Nat) : Prop := 0 < n → ∀ b o, A = some ⟨b, o, none⟩ → v.ownBlock ≠ some b
theorem Byt.keepX {v v' : Value} {w w' : World} {B n c : Nat} {A : Option Addr} {zs : List Int} (h : Byt w B A n c zs) (hk : KeepX v w v' w') (hB : B ≤ w.heap.size) (ho : Off v A n) : Byt w' B A n c zs :=
  ⟨h.len, h.cap, h.rng, fun hn => by
    obtain ⟨b, o, e, hlt, hc⟩ := h.cell hn
    refine ⟨b, o, e, hlt, fun i hi => ?_⟩
    rw [← hc i hi]
    exact World.cell?_of_block (hk.block b (Nat.lt_of_lt_of_le hlt hB) (ho hn b o e))⟩
theorem Mine.owned {w : World} {base p : Nat} {v : Value} {zs : List Int} (h : Mine w base v p zs) (b : Nat) (hb : v.ownBlock = some b) : base ≤ b := by
  rcases h.own.2 with ⟨rfl, _⟩ | ⟨b', cap, cur, rfl, h2, _⟩
  · cases hb
  · injection hb with hb
    dsimp only at hb
    omega
theorem Mine.appendX {w : World} {base p : Nat} {v : Value} {zs : List Int} (h : Mine w base v p zs) {B m c : Nat} {A : Option Addr} {ys : List Int} (hy : Byt w B A m c ys) (ty : TypeId) (hb : p + m ≤ 140737488355328) (hbase : base ≤ w.heap.size) :
    ∃ v' w', (Builtin.append_ #[22, 22] ty #[v, .slice A m c]).run Tryd.prog w = .ok v' w' ∧ Mine w' base v' (p + m) (zs ++ ys) ∧ KeepX v w v' w' := by
  obtain ⟨v', w', hr, hm, hb, hbl, hsz, hwn⟩ := h.appendT hy ty hb hbase
  exact ⟨v', w', hr, hm, hb.os, hb.tape, hb.output, hsz, hbl, hwn⟩
end
end Go.Proofs.YtliieeagbpmcgaaDoor
