/- slices.Chunk at bytes: what it hands back is an iterator over the slice's parts, for every loop body that keeps what lay. -/
import Derived.RangeFuncNested
import Derived.RangeFuncBound
import Derived.RangeFuncCalls
import Derived.RangeFuncLeaves
import Derived.RangeFuncBox
import Derived.Shelf.Abstract
import Derived.BigRegionIn
import Derived.Sort.BigQuietIn
import Derived.OwnWalkIn
import Derived.TacticsInMore
import Derived.LoopNIn
import Derived.LoopIn
import Derived.Test.YtginbilakdenmaaBytes
namespace Go.Proofs.Ytginbilakdenmaa
open Go.RowKit Go.BigFrame
set_option linter.unusedVariables false
set_option maxRecDepth 100000
attribute [local go_sem] Oper.semAt_some

/-- slices.Chunk(s, m): both are boxed; the function value has captured the boxes. -/
theorem chunk_in (F : Fence) (n : Nat) (h12 : F.fn 63) (hro : F.round = none) (A : Option Addr) (len cap : Nat) (m : Int) (hm : 1 ≤ m) (w : World) :
    CallsIn F n Try.prog 63 #[.slice A len cap, .int .i64 m] w fun e w' => e = .returned (.func (.func 64) #[] #[.pointer (some ⟨w.heap.size, 0, none⟩), .pointer (some ⟨w.heap.size + 1, 0, none⟩)]) ∧
      w' = (w.alloc (.cells #[.slice A len cap] 29)).alloc (.cells #[.int .i64 m] 3) := by
  refine callsIn_of_wp Try.func63 rfl h12 ?_ hro
  simp only [Try.ntmps63, List.size_toArray, List.length_cons, List.length_nil, Nat.reduceAdd, Nat.reduceSub, Array.replicate_succ, Array.replicate_zero, List.push_toArray, List.append_toArray, List.nil_append, List.cons_append]
  gi_wp2
  go_ret
  exact ⟨rfl, rfl⟩

/-- The j-th part of n bytes, in parts of m: how long it is. -/
def chN (n m j : Nat) : Nat := min m (n - m * j)

/-- What a round that goes on keeps: what lay below n₀, and the two boxes. -/
structure KpC (n₀ Bs Bm : Nat) (W W' : World) : Prop where
  below : Below n₀ W W'
  bs : W'.heap[Bs]? = W.heap[Bs]?
  bm : W'.heap[Bm]? = W.heap[Bm]?
theorem KpC.refl (n₀ Bs Bm : Nat) (W : World) : KpC n₀ Bs Bm W W := ⟨Below.refl _ _, rfl, rfl⟩
theorem KpC.trans {n₀ Bs Bm : Nat} {A B C : World} (h : KpC n₀ Bs Bm A B) (k : KpC n₀ Bs Bm B C) : KpC n₀ Bs Bm A C := ⟨h.below.trans k.below, k.bs.trans h.bs, k.bm.trans h.bm⟩
theorem KpC.drewN {n₀ Bs Bm : Nat} {A B : World} (h : KpC n₀ Bs Bm A B) (q : Nat) : KpC n₀ Bs Bm A (B.drewN q) := ⟨below_drewN h.below q, h.bs, h.bm⟩
theorem cell_at {A B : World} {b : Nat} (h : B.heap[b]? = A.heap[b]?) (o : Nat) : B.cell? ⟨b, o, none⟩ = A.cell? ⟨b, o, none⟩ := World.cell?_of_block h
theorem KpC.put {n₀ Bs Bm : Nat} {w : World} (hn : n₀ ≤ w.heap.size) (hs : Bs < w.heap.size) (hm : Bm < w.heap.size) (W : World) (l : Nat) (o o' : Obj) (hl : w.heap.size ≤ l) (h : W.heap[l]? = some o) (h1 : o.isCells = false) (h2 : o.isWalk = false) : KpC n₀ Bs Bm W (W.putObj l o') :=
  ⟨belowK_b hn W l o o' hl h h1 h2, World.putObj_heap_other (by omega), World.putObj_heap_other (by omega)⟩

set_option maxRecDepth 100000 in
/-- The iterator: it hands over the parts in turn. -/
theorem chunk1_in (F : Fence) (n : Nat) (h13 : F.fn 64) (hro : F.round = none) (hn : 1 ≤ n) (l Bs Bm n₀ b off len cap m : Nat) (hm : 1 ≤ m) (hm2 : m ≤ 1000000) (hlen : len ≤ 1000000000000) (hcap : len ≤ cap) (J Jx : List Nat → World → Prop)
    (hY : ∀ pre x W, J pre W → pre.length < (len + m - 1) / m → YieldAt F (n - 1) Try.prog l #[.slice (some ⟨b, off + m * x, none⟩) (chN len m x) (chN len m x)] W fun e W' =>
      (e = .returned (.bool true) ∧ J (pre ++ [x]) W' ∧ KpC n₀ Bs Bm W W') ∨ (e = .returned (.bool false) ∧ Jx (pre ++ [x]) W'))
    (W : World) (hBs : W.cell? ⟨Bs, 0, none⟩ = some (.slice (some ⟨b, off, none⟩) len cap)) (hBm : W.cell? ⟨Bm, 0, none⟩ = some (.int .i64 m)) (h0 : J [] W) (hd : ∀ (pre : List Nat) W q, J pre W → J pre (World.drewN W q)) :
    CallsIn F n Try.prog 64 #[.func (.yield l) #[] #[], .pointer (some ⟨Bs, 0, none⟩), .pointer (some ⟨Bm, 0, none⟩)] W fun e W' => (∃ v, e = .returned v) ∧
      ((∃ ys, ys = List.range ((len + m - 1) / m) ∧ J ys W') ∨ (∃ pre, True ∧ Jx pre W')) := by
  refine callsIn_of_wp Try.func64 rfl h13 ?_ hro
  simp only [Try.ntmps64, List.size_toArray, List.length_cons, List.length_nil, Nat.reduceAdd, Nat.reduceSub, Array.replicate_succ, Array.replicate_zero, List.push_toArray, List.append_toArray, List.nil_append, List.cons_append]
  gi_wp2
  gi_loopw [4] (fun i wr => ∃ k : Nat, k ≤ (len + m - 1) / m ∧ i = .int .i64 (m * k : Nat) ∧ J (List.range k) wr ∧ KpC n₀ Bs Bm W wr)
    (fun i _ => len - (intOf i).toNat)
  case atStart => exact ⟨0, Nat.zero_le _, by simp, h0, KpC.refl _ _ _ _⟩
  case round =>
    obtain ⟨k, hk, rfl, hJs, hnx⟩ := hrel
    have cs := (cell_at hnx.bs 0).trans hBs
    have cm := (cell_at hnx.bm 0).trans hBm
    by_cases hlt : m * k < len
    · obtain ⟨v, hv⟩ : ∃ v, m * k = v := ⟨_, rfl⟩
      obtain ⟨d, hd1⟩ : ∃ d, chN len m k = d := ⟨_, rfl⟩
      have hkN : k < (len + m - 1) / m := by
        rw [Nat.lt_div_iff_mul_lt (by omega)]
        rw [Nat.mul_comm] at hlt
        omega
      have hd2 : d = min m (len - v) := by rw [← hd1, ← hv]; rfl
      have hYk := fun q => hY _ k (wr.drewN q) (hd _ _ q hJs) (by rw [List.length_range]; exact hkN)
      rw [hv, hd1] at hYk
      rw [hv] at hlt ⊢
      have e5 : min (m : Int) ((len - v : Nat) : Int) = (d : Int) := by omega
      have hvl : v ≤ len := by omega
      have dl : v + d ≤ len := by omega
      have d0 : 1 ≤ d := by omega
      have hcv : ¬ (cap = v) := by omega
      have hcv2 : ¬ (cap - v = 0) := by omega
      have HV := Lib.hid hv
      have HD := Lib.hid hd1
      have E5 := Lib.hid e5
      have HY := Lib.hid hYk
      clear hv hd1 hd2 e5 hYk
      gi_wp2
      refine wpIn_region_quiet_lit hro (by kernel_rfl) (by kernel_rfl) ?_
      repeat (gi_big_quiet_step (skip))
      refine wpQuietIn_nil ?_
      rintro _ ⟨nq, rfl⟩
      rw [E5.out]
      obtain ⟨fn, tmps, assign, body, hy, hR⟩ := HY.out nq
      have HR := Lib.hid hR
      clear hR
      gi_wp2
      refine HR.out.mono ?_
      rintro e W3 (⟨rfl, hJ3, hk3⟩ | ⟨rfl, hJx3⟩)
      · have hk3' : KpC n₀ Bs Bm wr W3 := ((KpC.refl n₀ Bs Bm wr).drewN nq).trans hk3
        have cm3 := (cell_at hk3'.bm 0).trans cm
        gi_wp2
        go_roundw
        case rel => exact ⟨k + 1, by omega, by rw [Nat.mul_add, HV.out, Nat.mul_one]; go_num, by rw [List.range_succ]; exact hJ3, hnx.trans hk3'⟩
        case measure => simp [intOf]; omega
      · gi_wp2
        refine bodyPost_ret (results_none rfl _ _ _) rfl ?_
        exact ⟨⟨_, rfl⟩, .inr ⟨_, trivial, hJx3⟩⟩
    · have hkN : k = (len + m - 1) / m := by
        refine Nat.le_antisymm hk ?_
        rw [Nat.div_le_iff_le_mul_add_pred (by omega)]
        omega
      obtain ⟨v, hv⟩ : ∃ v, m * k = v := ⟨_, rfl⟩
      rw [hv] at hlt ⊢
      clear hv
      have HK := Lib.hid hkN
      clear hkN
      have hge : len ≤ v := by omega
      gi_wp2
      go_end0
      exact ⟨⟨_, rfl⟩, .inl ⟨_, rfl, by rw [← HK.out]; exact hJs⟩⟩

set_option maxRecDepth 100000 in
/-- .. of nothing: no round. -/
theorem chunk1_nil (F : Fence) (n : Nat) (h13 : F.fn 64) (hro : F.round = none) (l Bs Bm cap : Nat) (A : Option Addr) (J : List Nat → World → Prop) (W : World)
    (hBs : W.cell? ⟨Bs, 0, none⟩ = some (.slice A 0 cap)) (h0 : J [] W) :
    CallsIn F n Try.prog 64 #[.func (.yield l) #[] #[], .pointer (some ⟨Bs, 0, none⟩), .pointer (some ⟨Bm, 0, none⟩)] W fun e W' => (∃ v, e = .returned v) ∧ J [] W' := by
  refine callsIn_of_wp Try.func64 rfl h13 ?_ hro
  simp only [Try.ntmps64, List.size_toArray, List.length_cons, List.length_nil, Nat.reduceAdd, Nat.reduceSub, Array.replicate_succ, Array.replicate_zero, List.push_toArray, List.append_toArray, List.nil_append, List.cons_append]
  gi_wp2
  gi_loopw [4] (fun i wr => i = .int .i64 0 ∧ J [] wr ∧ wr.cell? ⟨Bs, 0, none⟩ = some (.slice A 0 cap)) (fun _ _ => 0)
  case atStart => exact ⟨rfl, h0, hBs⟩
  case round =>
    obtain ⟨rfl, hJs, hc⟩ := hrel
    gi_wp2
    go_end0
    exact ⟨⟨_, rfl⟩, hJs⟩

/-- The j-th part, as a value. -/
def chE (b off len m j : Nat) : Array Value := #[.slice (some ⟨b, off + m * j, none⟩) (chN len m j) (chN len m j)]

/-- What slices.Chunk hands back: all parts in turn, or the first of them. -/
theorem chunk_stops (F : Fence) (n : Nat) (h13 : F.fn 64) (hro : F.round = none) (hn : 1 ≤ n) (Bs Bm n₀ b off len cap m : Nat) (A : Option Addr) (hA : 0 < len → A = some ⟨b, off, none⟩) (hm : 1 ≤ m) (hm2 : m ≤ 1000000) (hlen : len ≤ 1000000000000) (hcap : len ≤ cap)
    (w : World) (hbs : Bs < w.heap.size) (hbm : Bm < w.heap.size) (hBs : w.cell? ⟨Bs, 0, none⟩ = some (.slice A len cap)) (hBm : w.cell? ⟨Bm, 0, none⟩ = some (.int .i64 m)) :
    SeqStopsK F n Try.prog 64 #[.pointer (some ⟨Bs, 0, none⟩), .pointer (some ⟨Bm, 0, none⟩)] (chE b off len m) (KpC n₀ Bs Bm) (fun ys => ys = List.range ((len + m - 1) / m)) (fun _ => True) ((len + m - 1) / m) w := fun l J Jx W hW hJ _ hY h0 => by
  have hBs' := (hW.cell (p := ⟨Bs, 0, none⟩) hbs).trans hBs
  have hBm' := (hW.cell (p := ⟨Bm, 0, none⟩) hbm).trans hBm
  by_cases h : 0 < len
  · obtain rfl := hA h
    exact chunk1_in F n h13 hro hn l Bs Bm n₀ b off len cap m hm hm2 hlen hcap J Jx hY W hBs' hBm' h0 (fun pre W q hj => hJ pre W _ none hj ⟨rfl, rfl, rfl, Nat.le_refl _, fun _ _ _ => rfl⟩ (fun _ e => by cases e))
  · obtain rfl : len = 0 := by omega
    have e : (0 + m - 1) / m = 0 := Nat.div_eq_of_lt (by omega)
    rw [e]
    exact (chunk1_nil F n h13 hro l Bs Bm cap A J W hBs' h0).mono fun e W' ⟨he, hj⟩ => ⟨he, .inl ⟨_, rfl, hj⟩⟩
end Go.Proofs.Ytginbilakdenmaa
