/- Contracts of functions that the law calls, and what they lean on (a part). -/
import Derived.Lib.AppendStr
import Derived.Deep.Upon
import Derived.Test.YtliieeagbpmcgaaDoorPu8
namespace Go.Proofs.YtliieeagbpmcgaaDoor
section
open Go.RowKit
set_option linter.unusedVariables false
set_option maxRecDepth 100000
theorem strCells_map (s : ByteArray) : Lib.strCells s = (strZ s).map (Value.int .u8) := by simp [Lib.strCells, strZ]
theorem strZ_rng (s : ByteArray) : ∀ z ∈ strZ s, 0 ≤ z ∧ z < 256 := fun z hz => by
  obtain ⟨b, _, rfl⟩ := List.mem_map.1 hz
  have := UInt8.toNat_lt b
  omega
/-- Bytes of a text behind a row of one's own; which blocks may change. -/
theorem Mine.appendSX {w : World} {base p : Nat} {v : Value} {zs : List Int} (h : Mine w base v p zs) (s : ByteArray) (hb : p + s.size ≤ 140737488355328) (hbase : base ≤ w.heap.size) :
    ∃ v' w', (Builtin.append_ #[22, 9] 22 #[v, .string s]).run Tryd.prog w = .ok v' w' ∧ Mine w' base v' (p + s.size) (zs ++ strZ s) ∧ KeepX v w v' w' := by
  obtain ⟨i0, hi, hz0, hz1, hz2⟩ := info_parts info5
  obtain ⟨v', w', hrun, hown, hgr, _⟩ := Lib.run_append_own_string (P := Tryd.prog) w base 22 9 22 5 i0 Tryd.underlying22 Tryd.underlying9 hi hz0 hz1 hz2 v p _ h.own s (by simp only [maxLen]; omega) (by omega) hbase
  rw [strCells_map] at hown
  have hM : Mine w' base v' (p + s.size) (zs ++ strZ s) := ⟨by simpa using hown, fun z hz => by
    rcases List.mem_append.1 hz with hz | hz
    · exact h.rng z hz
    · exact strZ_rng s z hz⟩
  refine ⟨v', w', hrun, hM, ⟨hgr.os, hgr.tape, hgr.output, hgr.size, fun k hk hne => hgr.block k hk (fun e => hne e.symm), fun b hb' => ?_⟩⟩
  rcases h.own.2 with ⟨rfl, h0⟩ | ⟨g, cap, cur, rfl, hbg, hg, hnc, hcm, hcs, htake⟩
  · subst h0
    have hzs : zs = [] := List.eq_nil_of_length_eq_zero h.len
    subst hzs
    obtain ⟨v2, w2, hrun2, hown2, _, _⟩ := Lib.run_append_own_string (P := Tryd.prog) w w.heap.size 22 9 22 5 i0 Tryd.underlying22 Tryd.underlying9 hi hz0 hz1 hz2 (.slice none 0 0) 0 _ (Mine.nil w w.heap.size).own s (by simp only [maxLen]; omega) (by omega) (Nat.le_refl _)
    rw [hrun] at hrun2
    injection hrun2 with e1 e2
    subst e1 e2
    rcases hown2.2 with ⟨rfl, _⟩ | ⟨g, cap, cur, rfl, hbg, _⟩
    · cases hb'
    · injection hb' with hb'
      dsimp only at hb'
      subst hb'
      exact .inr hbg
  · by_cases hroom : p + s.size ≤ cap
    · have hr := Lib.run_append_room_string (P := Tryd.prog) w 22 9 22 5 i0 Tryd.underlying22 Tryd.underlying9 hi hz1 g p cap cur hg s hroom (by rw [hcs]; omega)
      rw [hrun] at hr
      injection hr with e1 e2
      subst e1
      injection hb' with hb'
      dsimp only at hb'
      subst hb'
      exact .inl rfl
    · have holds : ∀ j u, (zs.map (Value.int .u8))[j]? = some u → w.cell? ((⟨g, 0, none⟩ : Addr).add j) = some u := h.own.cells (g := g) rfl
      have hr := Lib.run_append_grow_string (P := Tryd.prog) w 22 9 22 5 i0 _ Tryd.underlying22 Tryd.underlying9 hi hz0 ⟨g, 0, none⟩ p cap (zs.map (Value.int .u8)) (by rw [hz1]; exact h.own.1) holds s (by omega) (by omega) (growslice_fits (by omega) (by rw [hz2]; omega))
      rw [hrun] at hr
      injection hr with e1 e2
      subst e1
      injection hb' with hb'
      dsimp only at hb'
      subst hb'
      exact .inr (Nat.le_refl _)
theorem append_no (w : World) (A A2 : Option Addr) (p c c2 : Nat) (hle : p ≤ c) : (Builtin.append_ #[22, 22] 22 #[.slice A p c, .slice A2 0 c2]).run Tryd.prog w = .ok (.slice A p c) w := by
  obtain ⟨i0, hi, hz0, hz1, hz2⟩ := info_parts info5
  cases A <;> cases A2 <;> simp [Builtin.append_, run_underlying Tryd.underlying22, sizeOf, typeInfo, hi, Builtin.lenOf, hle, Builtin.firstCells, storeCells, loadCells, loadCellsFrom]
end

section
open Go.RowKit
set_option linter.unusedVariables false
set_option maxRecDepth 100000
/-- Bytes that are handed in, one of several. -/
structure Pt where
  A : Option Addr
  n : Nat
  c : Nat
  zs : List Int
def flatP (ps : List Pt) : List Int := ps.flatMap (·.zs)
theorem flatP_snoc (ps : List Pt) (k : Nat) (q : Pt) (h : ps[k]? = some q) : flatP (ps.take (k + 1)) = flatP (ps.take k) ++ q.zs := by
  unfold flatP
  rw [List.take_add_one, h]
  simp
theorem flatP_le (ps : List Pt) (k : Nat) : (flatP (ps.take k)).length ≤ (flatP ps).length := by
  have h : flatP ps = flatP (ps.take k) ++ flatP (ps.drop k) := by unfold flatP; rw [← List.flatMap_append, List.take_append_drop]
  rw [h, List.length_append]; omega
theorem lit13 (W : World) (fr : Nat × Nat) (zs : List Int) (hr : ∀ z ∈ zs, 0 ≤ z ∧ z < 256) (C : Array Value) (n : Nat) (hn : zs.length = n) (hC : C = (zs.map (Value.int .u8)).toArray) : Byt (W.alloc (.cells C 5 fr)) (W.alloc (.cells C 5 fr)).heap.size (some ⟨W.heap.size, 0, none⟩) n n zs :=
  (byt_lit W fr zs hr n hn C hC).more (by simp)
/-- What an append lays in a new block is one's own. -/
theorem own_new13 (w : World) (base : Nat) (hbase : base ≤ w.heap.size) (zs ys : List Int) (old : Nat) (hb : zs.length + ys.length ≤ 140737488355328) :
    (w.drew.alloc (.cells ((zs.map (Value.int .u8)).toArray ++ (ys.map (Value.int .u8)).toArray ++ Builtin.zeroCells (Value.int .u8 0).cells (grownCap w (zs.length + ys.length) old 5 - (zs.length + ys.length))) 5)).ownsRow base 5 1 (.slice (some ⟨w.heap.size, 0, none⟩) (zs.length + ys.length) (grownCap w (zs.length + ys.length) old 5)) (zs.length + ys.length) ((zs ++ ys).map (Value.int .u8)) := by
  have hge := grownCap_ge w (zs.length + ys.length) old 5
  have hcm := grownCap_le_maxLen w (zs.length + ys.length) old 5 (by simp only [maxLen]; omega)
  refine ⟨by simp, .inr ⟨w.heap.size, _, _, rfl, hbase, heap_alloc_new w.drew _, hge, hcm, ?_, ?_⟩⟩
  · simp [size_zeroCells, Value.cells]; omega
  · simp only [Array.toList_append, List.append_assoc, List.map_append]
    rw [← List.append_assoc]
    exact List.take_left' (by simp)
theorem keep_new13 (v : Value) (w : World) (o : Obj) (n c : Nat) : KeepX v w (.slice (some ⟨w.heap.size, 0, none⟩) n c) (w.drew.alloc o) :=
  ⟨rfl, rfl, rfl, by simp, fun k hk _ => heap_alloc_old w.drew _ hk, fun b hb => .inr (by injection hb with hb; dsimp only at hb; omega)⟩
/-- A row of one's own; if s, a constant's row that is full, too. -/
def RowB (s : Bool) (w : World) (base : Nat) (v : Value) (p : Nat) (zs : List Int) : Prop := Mine w base v p zs ∨ (s = true ∧ 0 < p ∧ ∃ b, v = .slice (some ⟨b, 0, none⟩) p p ∧ base ≤ b ∧ b < w.heap.size ∧ Byt w w.heap.size (some ⟨b, 0, none⟩) p p zs)
section
variable {s : Bool} {w w' : World} {base p : Nat} {v : Value} {zs : List Int}
theorem RowB.byt (h : RowB s w base v p zs) : ∃ A c, v = .slice A p c ∧ Byt w w.heap.size A p c zs := by
  rcases h with h | ⟨_, _, b, rfl, _, _, hy⟩
  · exact h.byt
  · exact ⟨_, _, rfl, hy⟩
theorem RowB.lt (h : RowB s w base v p zs) (b : Nat) (hb : v.ownBlock = some b) : b < w.heap.size := by
  rcases h with h | ⟨_, _, b', rfl, _, h2, hy⟩
  · exact h.lt b hb
  · injection hb with hb; dsimp only at hb; omega
theorem RowB.owned (h : RowB s w base v p zs) (b : Nat) (hb : v.ownBlock = some b) : base ≤ b := by
  rcases h with h | ⟨_, _, b', rfl, h1, h2, hy⟩
  · exact h.owned b hb
  · injection hb with hb; dsimp only at hb; omega
theorem RowB.kept (h : RowB s w base v p zs) (hb : Below w.heap.size w w') : RowB s w' base v p zs := by
  rcases h with h | ⟨hs, h0, b', rfl, h1, h2, hy⟩
  · exact .inl (h.kept hb)
  · exact .inr ⟨hs, h0, b', rfl, h1, Nat.lt_of_lt_of_le h2 hb.size, (hy.below hb (Nat.le_refl _)).more hb.size⟩
theorem RowB.cast (h : RowB s w base v p zs) : RowB s w base v zs.length zs := by
  have hl : zs.length = p := by obtain ⟨A, c, _, hy⟩ := h.byt; exact hy.len
  rw [hl]; exact h
theorem RowB.mine (h : RowB false w base v p zs) : Mine w base v p zs := by
  rcases h with h | ⟨hs, _⟩
  · exact h
  · cases hs
/-- A constant's row. -/
theorem RowB.lit (w : World) (base : Nat) (hbase : base ≤ w.heap.size) (fr : Nat × Nat) (zs : List Int) (hr : ∀ z ∈ zs, 0 ≤ z ∧ z < 256) (n : Nat) (hn : zs.length = n) (h0 : 0 < n) (C : Array Value) (hC : C = (zs.map (Value.int .u8)).toArray) :
    RowB true (w.alloc (.cells C 5 fr)) base (.slice (some ⟨w.heap.size, 0, none⟩) n n) n zs :=
  .inr ⟨rfl, h0, w.heap.size, rfl, hbase, by simp, (byt_lit w fr zs hr n hn C hC).more (by simp)⟩
theorem row_cells13 {b n c : Nat} {B : Nat} (hy : Byt w B (some ⟨b, 0, none⟩) n c zs) : ∀ j u, (zs.map (Value.int .u8))[j]? = some u → w.cell? ((⟨b, 0, none⟩ : Addr).add j) = some u := by
  intro j u hj
  have hjl : j < zs.length := by have := (List.getElem?_eq_some_iff.1 hj).1; simpa using this
  have hyl := hy.len
  obtain ⟨b', o, e, _, hc⟩ := hy.cell (by omega)
  injection e with e
  injection e with e1 e2
  subst e1 e2
  have e2 : (⟨b, 0, none⟩ : Addr).add j = ⟨b, 0 + j, none⟩ := by unfold Addr.add; split <;> simp_all
  rw [e2, hc j (by omega), ← hj]
  simp [List.getD, hjl]
theorem byt_cells13 {a : Addr} {n c : Nat} {B : Nat} (hy : Byt w B (some a) n c zs) : ∀ j u, (zs.map (Value.int .u8))[j]? = some u → w.cell? (a.add j) = some u := by
  intro j u hj
  have hjl : j < zs.length := by have := (List.getElem?_eq_some_iff.1 hj).1; simpa using this
  have hyl := hy.len
  obtain ⟨b', o, e, _, hc⟩ := hy.cell (by omega)
  injection e with e
  subst e
  have e2 : (⟨b', o, none⟩ : Addr).add j = ⟨b', o + j, none⟩ := by unfold Addr.add; split <;> simp_all
  rw [e2, hc j (by omega), ← hj]
  simp [List.getD, hjl]
theorem RowB.appendX (h : RowB s w base v p zs) {B m c : Nat} {A : Option Addr} {ys : List Int} (hy : Byt w B A m c ys) (hb : p + m ≤ 140737488355328) (hbase : base ≤ w.heap.size) :
    ∃ v' w', (Builtin.append_ #[22, 22] 22 #[v, .slice A m c]).run Tryd.prog w = .ok v' w' ∧ RowB s w' base v' (p + m) (zs ++ ys) ∧ KeepX v w v' w' := by
  rcases h with h | ⟨hs, h0, b, rfl, h1, h2, hz⟩
  · obtain ⟨v', w', hr, hm, hk⟩ := h.appendX hy 22 hb hbase
    exact ⟨v', w', hr, .inl hm, hk⟩
  · rcases Nat.eq_zero_or_pos m with hm | hm
    · subst hm
      have : ys = [] := List.eq_nil_of_length_eq_zero hy.len
      subst this
      refine ⟨_, w, append_no w _ A p p c (Nat.le_refl _), ?_, KeepX.refl _ _⟩
      rw [List.append_nil]
      exact .inr ⟨hs, h0, b, rfl, h1, h2, hz⟩
    · obtain ⟨b2, o2, rfl, _, _⟩ := hy.cell hm
      obtain ⟨i0, hi, hz0, hz1, hz2⟩ := info_parts info5
      have hr := run_append_grow (P := Tryd.prog) w 22 22 5 i0 _ Tryd.underlying22 hi hz0 ⟨b, 0, none⟩ p p (zs.map (Value.int .u8)) (by simp [hz.len, hz1]) (row_cells13 hz) ⟨b2, o2, none⟩ m c (ys.map (Value.int .u8)) (by simp [hy.len, hz1]) (byt_cells13 hy) (by omega) (by omega) (growslice_fits (by omega) (by rw [hz2]; omega))
      have ho := own_new13 w base hbase zs ys p (by rw [hz.len, hy.len]; exact hb)
      rw [hz.len, hy.len] at ho
      exact ⟨_, _, hr, .inl ⟨ho, fun z hm => by
        rcases List.mem_append.1 hm with hm | hm
        · exact hz.rng z hm
        · exact hy.rng z hm⟩, keep_new13 _ w _ _ _⟩
end
set_option maxHeartbeats 2000000 in
theorem paddB {s : Bool} {w : World} {base p : Nat} {v : Value} {P : List Int} (h : RowB s w base v p P) (hbase : base ≤ w.heap.size) (ps : List Pt) (g o c : Nat) (hgl : g < w.heap.size) (hg : v.ownBlock ≠ some g)
    (hc : ∀ i q, ps[i]? = some q → w.cell? ⟨g, o + i, none⟩ = some (.slice q.A q.n q.c) ∧ Byt w w.heap.size q.A q.n q.c q.zs ∧ Off v q.A q.n) (hb : p + (flatP ps).length ≤ 140737488355328) (hl : ps.length ≤ 100) :
    Calls Tryd.prog 26 #[v, .slice (some ⟨g, o, none⟩) ps.length c] w fun r w' => ∃ v', r = .returned v' ∧ RowB s w' base v' (p + (flatP ps).length) (P ++ flatP ps) ∧ KeepX v w v' w' := by
  have HM0 : Hid (RowB s w base v (p + (flatP (ps.take 0)).length) (P ++ flatP (ps.take 0))) := Lib.hid (by simpa [flatP] using h)
  have HC := Lib.hid hc
  have HB := Lib.hid hb
  have HG := Lib.hid (And.intro hgl hg)
  have HBA := Lib.hid hbase
  obtain ⟨N, hN⟩ : ∃ N, ps.length = N := ⟨_, rfl⟩
  have HN := Lib.hid hN
  rw [hN] at hl ⊢
  clear h hc hb hgl hg hbase hN
  go_enter Tryd.func26, Tryd.ntmps26
  go_wp2_with fail
  go_loopw [0, 6, 9] (fun s0 s6 s9 wr => ∃ (k : Nat), k ≤ N ∧ s9 = .int .i64 k ∧ Hid (RowB s wr base s0 (p + (flatP (ps.take k)).length) (P ++ flatP (ps.take k))) ∧ Hid (KeepX v w s0 wr)) (fun _ _ s9 _ => N - (intOf s9).toNat)
  case atStart => exact ⟨0, Nat.zero_le _, rfl, HM0, Lib.hid (KeepX.refl _ _)⟩
  case round =>
    obtain ⟨k, hk, rfl, HM, HK⟩ := hrel
    obtain ⟨A0, c0, hv0, _⟩ := HM.out.byt
    subst hv0
    by_cases hlt : k < N
    · obtain ⟨q, hq⟩ : ∃ q, ps[k]? = some q := ⟨_, List.getElem?_eq_getElem (by rw [HN.out]; exact hlt)⟩
      obtain ⟨h1, h2, h3⟩ := HC.out k q hq
      have ck := (World.cell?_of_block (a := ⟨g, o + k, none⟩) (HK.out.block g HG.out.1 HG.out.2)).trans h1
      have HA := Lib.hid (HM.out.appendX (h2.keepX HK.out (Nat.le_refl _) h3) (by
        have e1 := flatP_snoc ps k q hq
        have e2 := flatP_le ps (k + 1)
        rw [e1, List.length_append] at e2
        have := h2.len
        have := HB.out
        omega) (Nat.le_trans HBA.out HK.out.size))
      have HS := Lib.hid (And.intro (flatP_snoc ps k q hq) h2.len)
      obtain ⟨qA, qn, qc, qz⟩ := q
      dsimp only at ck HA HS
      clear h1 h2 h3 hq
      go_wp2_with (first
        | (at_builtin; obtain ⟨v6, w6, hrun, hm6, hk6⟩ := HA.out; obtain ⟨A6, c6, hv6, _⟩ := hm6.byt; subst hv6; refine Lib.wpList_append_run_sl _ rfl (.tmp 13) (.tmp 14) 22 rfl _ _ rfl rfl hrun ?_; clear hrun; have HM6 := Lib.hid hm6; have HK6 := Lib.hid hk6; clear hm6 hk6))
      go_roundw
      case rel =>
        refine ⟨k + 1, hlt, by go_num, Lib.hid ?_, Lib.hid (HK.out.trans HK6.out)⟩
        rw [HS.out.1, List.length_append, HS.out.2, ← List.append_assoc, ← Nat.add_assoc]
        exact HM6.out
      case measure => simp [intOf]; omega
    · obtain rfl : k = N := by omega
      have HT : Hid (ps.take k = ps) := Lib.hid (List.take_of_length_le (by rw [HN.out]; exact Nat.le_refl _))
      clear hlt
      go_wp2_with fail
      go_ret
      refine ⟨_, rfl, ?_, HK.out⟩
      have h := HM.out
      rw [HT.out] at h ⊢
      exact h
/-- One text behind a row. -/
theorem paddS {w : World} {base p : Nat} {v : Value} {P : List Int} (h : Mine w base v p P) (hbase : base ≤ w.heap.size) (t : ByteArray) (hb : p + t.size ≤ 140737488355328) :
    Calls Tryd.prog 23 #[v, .slice (some ⟨w.heap.size, 0, none⟩) 1 1] (w.alloc (.cells #[.string t] 9)) fun r w' => ∃ v', r = .returned v' ∧ Mine w' base v' (p + t.size) (P ++ strZ t) ∧ KeepX v w v' w' := by
  have hb1 := (Below.refl w.heap.size w).alloc (Nat.le_refl _) (.cells #[.string t] 9)
  have hn1 := heap_alloc_new w (.cells #[.string t] 9)
  obtain ⟨W1, hW1⟩ : ∃ W1, w.alloc (.cells #[.string t] 9) = W1 := ⟨_, rfl⟩
  have hs1 : W1.heap.size = w.heap.size + 1 := by rw [← hW1]; simp
  rw [hW1] at hb1 hn1 ⊢
  have c1 : W1.cell? ⟨w.heap.size, 0, none⟩ = some (.string t) := cell_of_row _ _ 0 _ _ (0, 0) hn1
  have hm1 := h.kept hb1
  have HA := Lib.hid (hm1.appendSX t hb (by omega))
  have HM1 := Lib.hid hm1
  have HB1 := Lib.hid hb1
  have HF : Hid (v.ownBlock ≠ some w.heap.size) := Lib.hid (fun e => by have := h.lt _ e; omega)
  obtain ⟨A0, c0, hv0, _⟩ := h.byt
  subst hv0
  clear hb1 hn1 hW1 hm1 h
  go_enter Tryd.func23, Tryd.ntmps23
  go_wp2_with fail
  go_loopw [0, 6, 9] (fun s0 s6 s9 wr => (s9 = .int .i64 0 ∧ s0 = .slice A0 p c0 ∧ wr = W1) ∨ (s9 = .int .i64 1 ∧ Hid (Mine wr base s0 (p + t.size) (P ++ strZ t)) ∧ Hid (KeepX (.slice A0 p c0) W1 s0 wr))) (fun _ _ s9 _ => 1 - (intOf s9).toNat)
  case atStart => exact .inl ⟨rfl, rfl, rfl⟩
  case round =>
    rcases hrel with ⟨rfl, rfl, rfl⟩ | ⟨rfl, HM, HK⟩
    · go_wp2_with (first
        | (at_builtin; obtain ⟨v6, w6, hrun, hm6, hk6⟩ := HA.out; refine Lib.wpList_append_run _ rfl _ _ _ _ rfl _ _ rfl rfl _ _ hrun ?_; clear hrun; have HM6 := Lib.hid hm6; have HK6 := Lib.hid hk6; clear hm6 hk6))
      go_roundw
      case rel => exact .inr ⟨by go_num, HM6, HK6⟩
      case measure => simp [intOf]
    · go_wp2_with fail
      go_ret
      exact ⟨_, rfl, HM.out, HK.out.start HB1.out⟩
end
end Go.Proofs.YtliieeagbpmcgaaDoor
