/- FixedShares: a sum of parts is the sum, in whatever order; a product by a whole number. No condition on the input. -/
import Derived.Test.YtlpehpajfinjkaaDoorLaid2
import Derived.Test.YtlpehpajfinjkaaDoorOpen2
import Derived.Outline
import Derived.LoopTactic
import Derived.WalkLawsBesides
import Derived.OwnWalk
import Derived.Maps.AppendAt
import Derived.Lib.AppendZerosOnto
import Derived.Lib.SliceRun
import Derived.Lib.SlFresh
import Derived.Lib.Walk
namespace Go.Proofs.YtlpehpajfinjkaaDoor
open Go.ChangeShapes Go.WideShapes Go.ChangeAt Go.RowKit Go.Deep
set_option linter.unusedVariables false

/-- The slice '.slice A n c' holds the int32s zs. -/
structure I32s (w : World) (A : Option Addr) (n c : Nat) (zs : List Int) : Prop where
  len : zs.length = n
  cap : n ≤ c
  rng : ∀ z ∈ zs, -2147483648 ≤ z ∧ z ≤ 2147483647
  cell : 0 < n → ∃ b o, A = some ⟨b, o, none⟩ ∧ b < w.heap.size ∧ ∀ i, i < n → w.cell? ⟨b, o + i, none⟩ = some (.int .i32 (zs.getD i 0))
theorem i32_wf {x : Int} (h : (Lit.int .i32 x).wf = true) : -2147483648 ≤ x ∧ x ≤ 2147483647 := by
  simp [Lit.wf] at h
  have e1 : IntKind.i32.min = -2147483648 := by decide
  have e2 : IntKind.i32.max = 2147483647 := by decide
  omega
theorem i32s_of_cells {w : World} {a : Addr} {len cap : Nat} {zs : List Int} (hl : len ≤ cap) (hz : zs.length = cap)
    (hcell : ∀ i, i < zs.length → w.cell? (a.add i) = some (.int .i32 (zs.getD i 0))) (hwz : ∀ n ∈ zs, (Lit.int .i32 n).wf = true) : I32s w (some a) len cap (zs.take len) := by
  refine ⟨by simp; omega, hl, fun z hz => i32_wf (hwz z (List.mem_of_mem_take hz)), fun h0 => ?_⟩
  obtain ⟨b, o, rfl, hc⟩ := ints_at hcell (by omega)
  refine ⟨b, o, rfl, cell_lt (hc 0 (by omega)), fun i hi => ?_⟩
  rw [hc i (by omega)]
  simp [List.getD, hi]
theorem open_i32s {H : Type} {enc : TypeId × Value → H} {W : World} {base : Nat} {sp : Nat → Bool} {held : Bool} {A : Option Addr} {len cap : Nat} {d : DataW H} {p : List MemPlace}
    (h : DataW.Trod enc Tryd.prog W base sp held 42 (.slice A len cap) d p) (hsp : ∀ b, sp b = true) : ∃ zs, I32s W A len cap zs ∧ cap ≤ maxLen := by
  obtain ⟨fuel, hf⟩ := h
  rcases open_ints Tryd.underlying42 Tryd.underlying21 (by kernel_rfl) hf with ⟨hcs, _⟩ | ⟨x, l, c, zs, hcs, _, hl, hm, hz, _, hcell, hwz⟩
  · simp [Value.cells] at hcs
    obtain ⟨rfl, rfl, rfl⟩ := hcs
    exact ⟨[], ⟨rfl, Nat.le_refl _, (fun _ h => by cases h), fun h => absurd h (by omega)⟩, Nat.zero_le _⟩
  · simp [Value.cells] at hcs
    obtain ⟨rfl, rfl, rfl⟩ := hcs
    exact ⟨_, i32s_of_cells hl (by simpa [hsp] using hz) hcell hwz, hm⟩

theorem addS_ok : ∀ (l : List Int) (acc : Int), (∀ z ∈ l, -2147483648 ≤ z ∧ z ≤ 2147483647) → -214748364799999 ≤ acc - 2147483648 * l.length → acc + 2147483648 * l.length ≤ 214748364799999 → addS acc l = some (acc + l.sum)
  | [], acc, _, _, _ => by simp [addS]
  | z :: r, acc, h, h1, h2 => by
    obtain ⟨z0, z1⟩ := h z List.mem_cons_self
    rw [List.length_cons] at h1 h2
    have e1 : inB z = true := inB_true (by omega) (by omega)
    have e2 : inB (acc + z) = true := inB_true (by omega) (by omega)
    rw [addS, if_pos ⟨e1, e2⟩, addS_ok r (acc + z) (fun y hy => h y (List.mem_cons_of_mem _ hy)) (by omega) (by omega), List.sum_cons, Int.add_assoc]
theorem addP_ok (l : List Int) (h : ∀ z ∈ l, -2147483648 ≤ z ∧ z ≤ 2147483647) (hl : l.length ≤ 60) : addP l = (l.sum, true) := by
  unfold addP
  rw [addS_ok l 0 h (by omega) (by omega), Int.zero_add]
theorem sum_rev : ∀ l : List Int, l.reverse.sum = l.sum
  | [] => rfl
  | z :: r => by rw [List.reverse_cons, List.sum_append, sum_rev r, List.sum_cons, List.sum_cons, List.sum_nil]; omega
theorem sum_bd : ∀ l : List Int, (∀ z ∈ l, -2147483648 ≤ z ∧ z ≤ 2147483647) → -(2147483648 * (l.length : Int)) ≤ l.sum ∧ l.sum ≤ 2147483648 * (l.length : Int)
  | [], _ => by simp
  | z :: r, h => by
    have h1 := h z List.mem_cons_self
    have h2 := sum_bd r (fun y hy => h y (List.mem_cons_of_mem _ hy))
    rw [List.sum_cons, List.length_cons]
    omega
theorem mul_bd (x m : Int) (h1 : -2147483648 ≤ x) (h2 : x ≤ 2147483647) (h3 : -32768 ≤ m) (h4 : m ≤ 32767) : -70368744177664 ≤ x * m ∧ x * m ≤ 70368744177664 := by
  have e : (x * m).natAbs = x.natAbs * m.natAbs := Int.natAbs_mul x m
  have h := Nat.mul_le_mul (show x.natAbs ≤ 2147483648 by omega) (show m.natAbs ≤ 32768 by omega)
  omega
theorem mulS_share (x m : Int) (h1 : -2147483648 ≤ x) (h2 : x ≤ 2147483647) (h3 : -32768 ≤ m) (h4 : m ≤ 32767) : mulS x (m * 100000) = (x * m, true) := by
  have hb := mul_bd x m h1 h2 h3 h4
  have e : inB (x * m) = true := inB_true (by omega) (by omega)
  unfold mulS
  rw [if_pos ⟨inB_true (by omega) (by omega), inB_true (by omega) (by omega)⟩, ← Int.mul_assoc, Int.mul_tdiv_cancel _ (by omega), numV_yes e, e]

theorem info2 : (Tryd.prog.info? 2).map (fun i => (i.zero, i.size, i.bytes)) = some (some (.int .i64 0), 1, 8) := by kernel_rfl
/-- v is a slice of the call's own, in a block from 'base' on, that holds the p int64s zs. -/
def RowI (w : World) (base : Nat) (v : Value) (p : Nat) (zs : List Int) : Prop := w.ownsRow base 2 1 v p (zs.map (Value.int .i64))
section
variable {w w' : World} {base p : Nat} {v : Value} {zs : List Int}
theorem RowI.len (h : RowI w base v p zs) : zs.length = p := by have := h.1; simp at this; exact this
theorem RowI.nil (w : World) (base : Nat) : RowI w base (.slice none 0 0) 0 [] := ⟨rfl, .inl ⟨rfl, rfl⟩⟩
theorem RowI.lt (h : RowI w base v p zs) {b : Nat} (hb : v.ownBlock = some b) : b < w.heap.size ∧ base ≤ b := by
  rcases h.2 with ⟨rfl, _⟩ | ⟨g, cap, cur, rfl, hg, hh, _⟩
  · cases hb
  · injection hb with hb
    subst hb
    refine ⟨?_, hg⟩
    rcases Nat.lt_or_ge g w.heap.size with hlt | hge
    · exact hlt
    · rw [Array.getElem?_eq_none hge] at hh; cases hh
theorem RowI.keep (h : RowI w base v p zs) (hk : ∀ b, v.ownBlock = some b → w'.heap[b]? = w.heap[b]?) : RowI w' base v p zs := by
  refine ⟨h.1, ?_⟩
  rcases h.2 with h0 | ⟨g, cap, cur, rfl, hg, hh, hr⟩
  · exact .inl h0
  · exact .inr ⟨g, cap, cur, rfl, hg, by rw [hk g rfl]; exact hh, hr⟩
theorem RowI.alloc (h : RowI w base v p zs) (o : Obj) : RowI (w.alloc o) base v p zs := h.keep fun b hb => (Below.refl w.heap.size w |>.alloc (Nat.le_refl _) o).block b (h.lt hb).1
theorem RowI.ints (h : RowI w base v p zs) : ∃ A c, v = .slice A p c ∧ Ints w w.heap.size A p c zs := by
  rcases h.2 with ⟨rfl, h0⟩ | ⟨b, cap, cur, rfl, hb, hh, hnc, _⟩
  · subst h0
    exact ⟨none, 0, rfl, h.len, Nat.le_refl _, fun h => absurd h (by omega)⟩
  · refine ⟨some ⟨b, 0, none⟩, cap, rfl, h.len, hnc, fun h0 => ⟨b, 0, rfl, (h.lt rfl).1, fun i hi => ?_⟩⟩
    have hci := World.ownsRow.cells h (g := b) rfl i (.int .i64 (zs.getD i 0)) (by simp [List.getD, h.len, hi])
    have e2 : (⟨b, 0, none⟩ : Addr).add i = ⟨b, 0 + i, none⟩ := by unfold Addr.add; split <;> simp_all
    rw [← e2]; exact hci
theorem RowI.lit (w : World) (base : Nat) (x : Int) (hb : base ≤ w.heap.size) : RowI (w.alloc (.cells #[.int .i64 x] 2)) base (.slice (some ⟨w.heap.size, 0, none⟩) 1 1) 1 [x] :=
  ⟨rfl, .inr ⟨w.heap.size, 1, #[.int .i64 x], rfl, hb, heap_alloc_new w _, Nat.le_refl _, by decide, rfl, rfl⟩⟩

set_option maxRecDepth 100000 in
/-- Beyond what was there, the row of v alone may have changed. -/
theorem RowI.append (h : RowI w base v p zs) {B m c : Nat} {A : Option Addr} {ys : List Int} (hy : Ints w B A m c ys) (ty : TypeId) (hb : p + m ≤ 1000000) (hbase : base ≤ w.heap.size) :
    ∃ v' w', (Builtin.append_ #[35, 35] ty #[v, .slice A m c]).run Tryd.prog w = .ok v' w' ∧ RowI w' base v' (p + m) (zs ++ ys) ∧ Below base w w' ∧ (∀ k, k < w.heap.size → some k ≠ v.ownBlock → w'.heap[k]? = w.heap[k]?) ∧ (v'.ownBlock = v.ownBlock ∨ v'.ownBlock = some w.heap.size) := by
  obtain ⟨i0, hi, hz0, hz1, hz2⟩ := info_parts info2
  rcases A with _ | a
  · have h0 : m = 0 := by
      rcases Nat.eq_zero_or_pos m with h0 | h0
      · exact h0
      · obtain ⟨b, o, e, _⟩ := hy.cell h0
        cases e
    subst h0
    have hn : ys = [] := List.eq_nil_of_length_eq_zero hy.len
    subst hn
    refine ⟨v, w, ?_, by simpa using h, Below.refl _ _, fun _ _ _ => rfl, .inl rfl⟩
    rcases h.2 with ⟨rfl, _⟩ | ⟨b, cap, cur, rfl, _, _, hnc, _⟩
    · simp [Builtin.append_, run_underlying Tryd.underlying35, sizeOf, typeInfo, hi, Builtin.lenOf, Builtin.firstCells]
    · simp [Builtin.append_, run_underlying Tryd.underlying35, sizeOf, typeInfo, hi, Builtin.lenOf, Builtin.firstCells, hnc, storeCells]
  · have hcell : ∀ j u, (ys.map (Value.int .i64))[j]? = some u → w.cell? (a.add j) = some u := by
      intro j u hj
      have hjl : j < ys.length := by have := (List.getElem?_eq_some_iff.1 hj).1; simpa using this
      have hyl := hy.len
      obtain ⟨b, o, e, _, hc⟩ := hy.cell (by omega)
      injection e with e
      subst e
      have e2 : (⟨b, o, none⟩ : Addr).add j = ⟨b, o + j, none⟩ := by unfold Addr.add; split <;> simp_all
      rw [e2, hc j (by omega), ← hj]
      simp [List.getD, hjl]
    obtain ⟨v', w', hr, hown, hgr, _, hat⟩ := run_append_own_at (P := Tryd.prog) w base 35 ty 2 i0 _ 1 8 Tryd.underlying35 hi hz0 hz1 hz2 rfl (by omega) v p _ h a m c (ys.map (Value.int .i64))
      (by simp [hy.len]) hcell (fun u hu => by obtain ⟨x, _, rfl⟩ := List.mem_map.1 hu; rfl) (by simp only [maxLen]; omega) (by omega) hbase
    have hbl : ∀ k, k < w.heap.size → some k ≠ v.ownBlock → w'.heap[k]? = w.heap[k]? := fun k hk hne => hgr.block k hk hne
    exact ⟨v', w', hr, by unfold RowI; rw [List.map_append]; exact hown, ⟨hgr.os, hgr.tape, hgr.output, hgr.size, fun k hk => hbl k (Nat.lt_of_lt_of_le hk hbase) (fun e => by have := (h.lt e.symm).2; omega)⟩, hbl, hat⟩
end

/-- No block in common. -/
def Apart (u d : Value) : Prop := ∀ b, u.ownBlock = some b → d.ownBlock ≠ some b
theorem take_snocI (zs : List Int) (k : Nat) (h : k < zs.length) : zs.take (k + 1) = zs.take k ++ [zs.getD k 0] := by
  rw [List.take_succ_eq_append_getElem h]; simp [List.getD, h]

theorem two_step (wr : World) (base k cu cd : Nat) (Au Ad : Option Addr) (y : Int) (zs ds : List Int) (hu : RowI wr base (.slice Au k cu) k zs) (hd : RowI wr base (.slice Ad k cd) k ds) (hap : Apart (.slice Au k cu) (.slice Ad k cd)) (hbase : base ≤ wr.heap.size) (hk : k ≤ 60) :
    ∃ v6 w6 v8 w8, (Builtin.append_ #[35, 35] 35 #[.slice Au k cu, .slice (some ⟨wr.heap.size, 0, none⟩) 1 1]).run Tryd.prog (wr.alloc (.cells #[.int .i64 y] 2)) = .ok v6 w6 ∧ Below base wr w6 ∧
      (Builtin.append_ #[35, 35] 35 #[.slice (some ⟨w6.heap.size, 0, none⟩) 1 1, .slice Ad k cd]).run Tryd.prog (w6.alloc (.cells #[.int .i64 y] 2)) = .ok v8 w8 ∧ Below base wr w8 ∧ RowI w8 base v6 (k + 1) (zs ++ [y]) ∧ RowI w8 base v8 (k + 1) (y :: ds) ∧ Apart v6 v8 := by
  obtain ⟨O, hO⟩ : ∃ O, O = Obj.cells #[.int .i64 y] 2 := ⟨_, rfl⟩
  have hsA : (wr.alloc O).heap.size = wr.heap.size + 1 := by simp
  have hl1 := RowI.lit wr base y hbase
  rw [← hO] at hl1 ⊢
  obtain ⟨A1, c1, e1, hi1⟩ := hl1.ints
  injection e1 with e1a e1b e1c
  subst e1a e1c
  obtain ⟨v6, w6, r1, hu6, hb6, hk6, ha6⟩ := (hu.alloc O).append hi1 35 (by omega) (by omega)
  have hbA : Below base wr (wr.alloc O) := (Below.refl _ _).alloc hbase O
  have hb06 := hbA.trans hb6
  have hd6 : RowI w6 base (.slice Ad k cd) k ds := (hd.alloc O).keep fun b hb => hk6 b (by have := (hd.lt hb).1; omega) (fun e => hap b e.symm hb)
  have h6 : base ≤ w6.heap.size := Nat.le_trans hbase hb06.size
  have hsB : (w6.alloc O).heap.size = w6.heap.size + 1 := by simp
  have hl2 := RowI.lit w6 base y h6
  rw [← hO] at hl2
  obtain ⟨A2, c2, e2, hi2⟩ := (hd6.alloc O).ints
  injection e2 with e2a e2b e2c
  subst e2a e2c
  obtain ⟨v8, w8, r2, hd8, hb8, hk8, ha8⟩ := hl2.append hi2 35 (by omega) (by omega)
  have hbB : Below base w6 (w6.alloc O) := (Below.refl _ _).alloc h6 O
  refine ⟨v6, w6, v8, w8, r1, hb06, r2, hb06.trans (hbB.trans hb8), (hu6.alloc O).keep fun b hb => hk8 b (by have := (hu6.lt hb).1; omega) (fun e => ?_), by rw [Nat.add_comm k 1]; exact hd8, fun b hb hb2 => ?_⟩
  · injection e with e
    have := (hu6.lt hb).1
    simp at e
    omega
  · have h1 := (hu6.lt hb).1
    rcases ha8 with h | h
    · rw [h] at hb2
      injection hb2 with hb2
      simp at hb2
      omega
    · rw [h] at hb2
      injection hb2 with hb2
      omega

set_option maxRecDepth 100000 in
set_option maxHeartbeats 2000000 in
theorem shares_in (A : Option Addr) (n c : Nat) (zs : List Int) (m : Int) (w : World) (htab : Tab w) (hz : I32s w A n c zs) (hn : n ≤ 60) (m0 : -32768 ≤ m) (m1 : m ≤ 32767) :
    Calls Tryd.prog 10 #[.slice A n c, .int .i16 m] w fun e w' => e = .returned (.bool true) ∧ Below w.heap.size w w' := by
  have HTB := Lib.hid htab
  have HAW := Lib.hid (awake_any w htab)
  clear htab
  have HZ := Lib.hid hz
  clear hz
  go_enter Tryd.func10, Tryd.ntmps10
  go_wp2_with (first
    | (go_at_call 11; refine HAW.out.mono ?_; rintro e w1 ⟨rfl, q1⟩))
  have HB1 := Lib.hid q1
  clear q1
  go_loopw [5, 6, 7, 8] (fun u d s i wr => ∃ (k : Nat) (acc : Int), k ≤ n ∧ i = .int .i64 k ∧ s = .int .i64 acc ∧ -(2147483648 * (k : Int)) ≤ acc ∧ acc ≤ 2147483648 * (k : Int) ∧ Hid (acc = (zs.take k).sum) ∧ Hid (RowI wr w1.heap.size u k (zs.take k)) ∧ Hid (RowI wr w1.heap.size d k (zs.take k).reverse) ∧ Hid (Apart u d) ∧ Hid (Below w1.heap.size w1 wr)) (fun _ _ _ i _ => n - (intOf i).toNat)
  case atStart => exact ⟨0, 0, Nat.zero_le _, rfl, rfl, by omega, by omega, Lib.hid rfl, Lib.hid (RowI.nil _ _), Lib.hid (RowI.nil _ _), Lib.hid (fun b hb => by cases hb), Lib.hid (Below.refl _ _)⟩
  case round =>
    obtain ⟨k, acc, hk, rfl, rfl, a0, a1, hacc, hu, hd, hap, hbel⟩ := hrel
    have hcellA : ∀ j, j < n → ∃ b o, A = some ⟨b, o, none⟩ ∧ ∀ W, Below w1.heap.size w1 W → W.cell? ⟨b, o + j, none⟩ = some (.int .i32 (zs.getD j 0)) := fun j hj => by
      obtain ⟨b, o, hA, hbw, hcc⟩ := HZ.out.cell (by omega)
      exact ⟨b, o, hA, fun W hW => ((HB1.out.trans (hW.mono HB1.out.size)).cell (p := ⟨b, o + j, none⟩) hbw).trans (hcc j hj)⟩
    have hrngA : ∀ j, j < n → -2147483648 ≤ zs.getD j 0 ∧ zs.getD j 0 ≤ 2147483647 := fun j hj => by
      have hl : j < zs.length := by rw [HZ.out.len]; exact hj
      have e : zs.getD j 0 = zs[j] := by simp [List.getD, hl]
      rw [e]
      exact HZ.out.rng _ (List.getElem_mem hl)
    by_cases hlt : k < n
    · obtain ⟨b, o, rfl, hcell⟩ := hcellA k hlt
      have htk : zs.take (k + 1) = zs.take k ++ [zs.getD k 0] := take_snocI zs k (by rw [HZ.out.len]; exact hlt)
      have hyr := hrngA k hlt
      obtain ⟨y, hy⟩ : ∃ y, zs.getD k 0 = y := ⟨_, rfl⟩
      rw [hy] at hcell htk hyr
      obtain ⟨y0, y1⟩ := hyr
      obtain ⟨Au, cu, rfl, _⟩ := hu.out.ints
      obtain ⟨Ad, cd, rfl, _⟩ := hd.out.ints
      obtain ⟨v6, w6, v8, w8, r1, hb6, r2, hb8, hu8, hd8, hap8⟩ := two_step wr w1.heap.size k cu cd Au Ad y _ _ hu.out hd.out hap.out hbel.out.size (by omega)
      have ck := hcell wr hbel.out
      have ck6 := hcell w6 (hbel.out.trans hb6)
      have ck8 := hcell w8 (hbel.out.trans hb8)
      have H8 := Lib.hid (hbel.out.trans hb8)
      have HR1 := Lib.hid r1
      have HR2 := Lib.hid r2
      rw [← htk] at hu8
      have hrev : y :: (zs.take k).reverse = (zs.take (k + 1)).reverse := by rw [htk, List.reverse_append]; rfl
      rw [hrev] at hd8
      have HU8 := Lib.hid hu8
      have HD8 := Lib.hid hd8
      have HAP8 := Lib.hid hap8
      have HSUM : Hid (acc + y = (zs.take (k + 1)).sum) := Lib.hid (by rw [htk, List.sum_append, ← hacc.out]; simp)
      clear hcell htk hy r1 r2 hb6 hb8 hu8 hd8 hap8 hrev hcellA hrngA
      go_wp2_with (first
        | (at_builtin; refine Lib.wpList_append_run_sl _ rfl (.tmp 27) (.tmp 33) 35 rfl _ _ rfl rfl HR1.out ?_)
        | (at_builtin; refine Lib.wpList_append_run_sl _ rfl (.tmp 40) (.tmp 41) 35 rfl _ _ rfl rfl HR2.out ?_))
      go_roundw
      case rel => exact ⟨k + 1, acc + y, by omega, by go_num, rfl, by omega, by omega, HSUM, HU8, HD8, HAP8, H8⟩
      case measure => simp [intOf] <;> omega
    · obtain rfl : k = n := by omega
      have htake : zs.take k = zs := List.take_of_length_le (by rw [HZ.out.len]; exact Nat.le_refl _)
      have hpu := addP_ok zs HZ.out.rng (by rw [HZ.out.len]; exact hn)
      have hpd := addP_ok zs.reverse (fun z h => HZ.out.rng z (List.mem_reverse.1 h)) (by rw [List.length_reverse, HZ.out.len]; exact hn)
      rw [sum_rev] at hpd
      have hs : zs.sum = acc := by rw [hacc.out, htake]
      rw [hs] at hpu hpd
      rw [htake] at hu hd
      obtain ⟨Au, cu, rfl, hiu⟩ := hu.out.ints
      obtain ⟨Ad, cd, rfl, hiv⟩ := hd.out.ints
      have HF1 := Lib.hid (by have h := fxAdd Au k cu zs wr hiu (by omega); rw [hpu] at h; exact h)
      have HF2 := Lib.hid (fun W (hW : Below wr.heap.size wr W) => (by have h := fxAdd Ad k cd zs.reverse W ((hiv.below hW (Nat.le_refl _)).more hW.size) (by omega); rw [hpd] at h; exact h : Calls Tryd.prog 22 #[.slice Ad k cd] W fun e w' => e = .returned (pairV (acc, true)) ∧ Below W.heap.size W w'))
      have HBW := Lib.hid (HB1.out.trans (hbel.out.mono HB1.out.size))
      have HBR := Lib.hid (fun W (hW : Below wr.heap.size wr W) => hbel.out.trans (hW.mono hbel.out.size))
      by_cases h0 : 0 < k
      · obtain ⟨b, o, rfl, hcell⟩ := hcellA 0 h0
        have hyr := hrngA 0 h0
        obtain ⟨y, hy⟩ : ∃ y, zs.getD 0 0 = y := ⟨_, rfl⟩
        rw [hy] at hcell hyr
        rw [Nat.add_zero] at hcell
        obtain ⟨y0, y1⟩ := hyr
        have hms := mulS_share y m y0 y1 m0 m1
        obtain ⟨yb0, yb1⟩ := mul_bd y m y0 y1 m0 m1
        have HM := Lib.hid (fun W => hms ▸ fxMul y (m * 100000) W)
        have HC := Lib.hid hcell
        clear hcell hcellA hrngA hms hy hpu hpd hs htake hiu hiv hu hd hap hacc
        go_wp2_with (first
          | (go_at_call 22; (with_reducible refine HF1.out.mono ?_); rintro e x1 ⟨rfl, g1⟩)
          | (go_at_call 22; (with_reducible refine (HF2.out x1 g1).mono ?_); rintro e x2 ⟨rfl, g2⟩; have g3 := g1.trans (g2.mono g1.size); have ck := HC.out x2 (HBR.out x2 g3))
          | (go_at_call 13; (with_reducible refine (HM.out _).mono ?_); rintro e x3 ⟨rfl, g4⟩))
        go_ret
        have g5 := g3.trans (g4.mono g3.size)
        exact ⟨by simp, HBW.out.trans (g5.mono HBW.out.size)⟩
      · obtain rfl : k = 0 := by omega
        have hms := mulS_share 0 m (by omega) (by omega) m0 m1
        rw [Int.zero_mul] at hms
        have HM := Lib.hid (fun W => hms ▸ fxMul 0 (m * 100000) W)
        clear hcellA hrngA hms hpu hpd hs htake hiu hiv hu hd hap hacc
        go_wp2_with (first
          | (go_at_call 22; (with_reducible refine HF1.out.mono ?_); rintro e x1 ⟨rfl, g1⟩)
          | (go_at_call 22; (with_reducible refine (HF2.out x1 g1).mono ?_); rintro e x2 ⟨rfl, g2⟩; have g3 := g1.trans (g2.mono g1.size))
          | (go_at_call 13; (with_reducible refine (HM.out _).mono ?_); rintro e x3 ⟨rfl, g4⟩))
        go_ret
        have g5 := g3.trans (g4.mono g3.size)
        exact ⟨by simp, HBW.out.trans (g5.mono HBW.out.size)⟩
theorem shares_walk (A : Option Addr) (n c : Nat) (zs : List Int) (m : Int) (w : World) (htab : Tab w) (hz : I32s w A n c zs) (hn : n ≤ 9223372036854775807) (m0 : -32768 ≤ m) (m1 : m ≤ 32767) :
    Calls Tryd.prog 10 #[.slice A n c, .int .i16 m] w fun e w' => e = .returned (.bool true) ∧ Below w.heap.size w w' := by
  by_cases h : n ≤ 60
  · exact shares_in A n c zs m w htab hz h m0 m1
  · have HTB := Lib.hid htab
    have HAW := Lib.hid (awake_any w htab)
    clear htab
    have h3 : 60 < n := by omega
    clear hz
    go_enter Tryd.func10, Tryd.ntmps10
    go_wp2_with (first
      | (go_at_call 11; refine HAW.out.mono ?_; rintro e w1 ⟨rfl, q1⟩))
    go_ret
    exact ⟨rfl, q1⟩

set_option maxRecDepth 100000 in
theorem shares_lifted (os : Os) (started : os.Started) (H : Type) (enc : TypeId × Value → H) :
    ReturnsInHanded {} Tryd.checked os 10 .any (fun w args => (Rows.fixedSharesSpec.pre enc Tryd.prog Tryd.f10 Rows.fixedSharesRow.domain false w args ∧ laidMetH Tryd.prog Rows.fixedSharesRow.laid w) ∧ sizedMet enc Tryd.prog Tryd.f10 (OpenSpec.ofChange Rows.fixedSharesSpec) false w args) (Rows.fixedSharesSpec.post enc Tryd.prog Tryd.f10 false true false false) := by
  refine returnsInHanded_of_change_and (C := Tryd.checked) (X := fun w _ => laidMetH Tryd.prog Rows.fixedSharesRow.laid w) (fun _ _ _ hh h => h.of_heap hh) own started (by kernel_rfl) Tryd.func10
    (ChangeSpec.witness_shaped (enc := enc) (C := Tryd.checked) (os := os) (X := fun w _ => laidMetH Tryd.prog Rows.fixedSharesRow.laid w) false (World.laidAll Tryd.prog os Rows.fixedSharesRow.laid) #[.slice none 0 0, .int .i16 0] 8 (World.laidAll_os _ _ _)
      (World.shaped_of_ZipB (by kernel_rfl) (by kernel_rfl)) (by kernel_rfl) (by kernel_rfl) (by kernel_rfl)
      (by rw [MakeChecks.laidMetH_plain _ _ _ (by kernel_rfl)]; exact laidMet_laidAll _ (by kernel_rfl) (by kernel_rfl))) ?_
  intro W base args ds gs before hval0 hW hcnd _ hL _
  have htab : Tab W := tab_of_laid hL
  clear hL
  have hval : ∀ (j : Nat) t v, Tryd.f10.params[j]? = some t → args[j]? = some v → Value.okWide Tryd.prog W .any base t v := hval0
  have hW' := hW
  obtain ⟨p, q, hA0, hV, rfl, hfz, hnd⟩ := hW
  have hA : DataW.TrodAll enc Tryd.prog W 0 (fun _ => true) true Tryd.f10.params.toList args.toList ds p := hA0
  rw [Tryd.params10] at hA hval
  obtain ⟨v0, vs0, d0, ds0, p0, q0, hargs, rfl, rfl, h0, r0⟩ := trodAll_cons hA
  obtain ⟨v1, vs1, d1, ds1, p1, q1, rfl, rfl, rfl, h1, r1⟩ := trodAll_cons r0
  obtain ⟨rfl, rfl, rfl⟩ := trodAll_nil r1
  obtain rfl : args = #[v0, v1] := by cases args; simp_all
  obtain ⟨rfl, rfl⟩ := trodVars_none hV
  obtain ⟨a0, len0, cap0, rfl⟩ := okWide_slice Tryd.underlying42 (hval 0 42 v0 rfl rfl)
  obtain ⟨zs0, hz0, hcm0⟩ := open_i32s h0 (fun _ => rfl)
  have lt0 : ∀ x ∈ p0, x.block < W.heap.size := by obtain ⟨m, hm⟩ := h0; exact DataW.trod_lt m _ _ _ hm
  obtain ⟨x1, rfl⟩ := okWide_int Tryd.underlying43 (hval 1 43 v1 rfl rfl)
  obtain ⟨lo1, hi1⟩ := open_int Tryd.underlying43 h1
  have e16a : IntKind.i16.min = -32768 := by decide
  have e16b : IntKind.i16.max = 32767 := by decide
  rw [e16a] at lo1
  rw [e16b] at hi1
  have lt1 : ∀ x ∈ p1, x.block < W.heap.size := by obtain ⟨m, hm⟩ := h1; exact DataW.trod_lt m _ _ _ hm
  have hmx : maxLen = 9223372036854775807 := by decide
  clear hA0 hval0
  refine (shares_walk a0 len0 cap0 zs0 x1 W htab hz0 (by have := hz0.cap; omega) lo1 hi1).mono fun e W' ⟨he, bel⟩ => ?_
  subst he
  exact ⟨_, rfl, _, _, _, [], _, [], hW', trodAll_mk1 (shut_bool Tryd.underlying4 _), (trodAll_cons_mk (Below.trod laidOut (by kernel_rfl) (of_decide_eq_true (by kernel_rfl)) h0 bel lt0) (trodAll_cons_mk (Below.trod laidOut (by kernel_rfl) (of_decide_eq_true (by kernel_rfl)) h1 bel lt1) trodAll_mk0)), rfl, bel.frame _, fun h => by cases h⟩

/-- FixedShares: it answers true. -/
theorem shares_holds : Rows.FixedSharesSaid :=
  OpenClaim.holds_of_wide 10 Tryd.f10 rfl rfl rfl rfl rfl rfl rfl ⟨rfl, rfl, rfl, rfl, rfl⟩ rfl rfl rfl rfl rfl (by kernel_rfl) Tryd.func10 (by kernel_rfl)
    (of_decide_eq_true (by kernel_rfl)) (by unfold Func.isWrapper; first | (rw [if_pos (by decide +kernel)]; kernel_rfl) | (rw [if_neg (by decide +kernel)]; exact ⟨rfl, rfl⟩))
    (fun os started H enc _ => shares_lifted os started H enc)
/-- The card of FixedShares: what its row lists is tied to the program's text. -/
theorem shares_card : Rows.FixedSharesCardSaid :=
  Claim7.holds_tied_plain_at .later [] [.data, .data, .data, .data, .pinned] true Rows.fixedSharesCard.stood.harness false shares_holds (fun _ h => by cases h) (by kernel_rfl) (fun _ h => by cases h) fixedShares_row_tie rfl ⟨rfl, rfl⟩ (by kernel_rfl) rfl
    (fun f fn hf hfn => by
      obtain rfl : f = 10 := Option.some.inj ((show Tryd.prog.funcNamed "pressmark/pressmarklaw2.FixedShares" = some 10 by kernel_rfl).symm.trans hf) |>.symm
      obtain rfl : fn = Tryd.f10 := (Option.some.inj (Tryd.func10.symm.trans hfn)).symm
      exact ⟨by kernel_rfl, fun j t ht => by
        rw [Tryd.params10] at ht
        have hm : t ∈ [42, 43] := by simpa using Array.mem_of_getElem? ht
        have hall : ([42, 43].all fun u => !Tryd.prog.wantsStandIn u) = true := by kernel_rfl
        exact (show Tryd.prog.wantsStandIn t = false by simpa using List.all_eq_true.1 hall t hm)⟩)
    (by kernel_rfl)
#print axioms shares_card

end Go.Proofs.YtlpehpajfinjkaaDoor
