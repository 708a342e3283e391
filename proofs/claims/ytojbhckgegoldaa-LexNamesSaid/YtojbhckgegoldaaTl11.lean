/- Rows of one's own: a text appended, nothing or something appended; a part of a string. -/
import Derived.Test.YtojbhckgegoldaaTx11
import Derived.Test.YtojbhckgegoldaaKp8
import Derived.Test.YtojbhckgegoldaaMd7
import Derived.Lib.AppendStr
import Derived.Deep.Upon
namespace Go.Proofs.Ytojbhckgegoldaa
open Go.RowKit
set_option linter.unusedVariables false
set_option maxRecDepth 100000

theorem strCells_map (s : ByteArray) : Lib.strCells s = (strZ s).map (Value.int .u8) := by simp [Lib.strCells, strZ]
theorem strZ_rng (s : ByteArray) : ∀ z ∈ strZ s, 0 ≤ z ∧ z < 256 := fun z hz => by
  obtain ⟨b, _, rfl⟩ := List.mem_map.1 hz
  have := UInt8.toNat_lt b
  omega
/-- Bytes of a text behind a row of one's own; which blocks may change. -/
theorem Mine.appendSX {w : World} {base p : Nat} {v : Value} {zs : List Int} (h : Mine w base v p zs) (s : ByteArray) (hb : p + s.size ≤ 140737488355328) (hbase : base ≤ w.heap.size) :
    ∃ v' w', (Builtin.append_ #[25, 9] 25 #[v, .string s]).run Try.prog w = .ok v' w' ∧ Mine w' base v' (p + s.size) (zs ++ strZ s) ∧ KeepX v w v' w' := by
  obtain ⟨i0, hi, hz0, hz1, hz2⟩ := info_parts info5
  obtain ⟨v', w', hrun, hown, hgr, _⟩ := Lib.run_append_own_string (P := Try.prog) w base 25 9 25 5 i0 Try.underlying25 Try.underlying9 hi hz0 hz1 hz2 v p _ h.own s (by simp only [maxLen]; omega) (by omega) hbase
  rw [strCells_map] at hown
  have hM : Mine w' base v' (p + s.size) (zs ++ strZ s) := ⟨by simpa using hown, fun z hz => by
    rcases List.mem_append.1 hz with hz | hz
    · exact h.rng z hz
    · exact strZ_rng s z hz⟩
  refine ⟨v', w', hrun, hM, ⟨hgr.os, hgr.tape, hgr.output, hgr.size, fun k hk hne => hgr.block k hk (fun e => hne e.symm), fun b hb' => ?_⟩⟩
  rcases h.own.2 with ⟨rfl, h0⟩ | ⟨g, cap, cur, rfl, hbg, hg, hnc, hcm, hcs, htake⟩
  · subst h0
    have hzs : zs = [] := List.eq_nil_of_length_eq_zero h.len
    subst hzs
    obtain ⟨v2, w2, hrun2, hown2, _, _⟩ := Lib.run_append_own_string (P := Try.prog) w w.heap.size 25 9 25 5 i0 Try.underlying25 Try.underlying9 hi hz0 hz1 hz2 (.slice none 0 0) 0 _ (Mine.nil w w.heap.size).own s (by simp only [maxLen]; omega) (by omega) (Nat.le_refl _)
    rw [hrun] at hrun2
    injection hrun2 with e1 e2
    subst e1 e2
    rcases hown2.2 with ⟨rfl, _⟩ | ⟨g, cap, cur, rfl, hbg, _⟩
    · cases hb'
    · injection hb' with hb'
      dsimp only at hb'
      subst hb'
      exact .inr hbg
  · by_cases hroom : p + s.size ≤ cap
    · have hr := Lib.run_append_room_string (P := Try.prog) w 25 9 25 5 i0 Try.underlying25 Try.underlying9 hi hz1 g p cap cur hg s hroom (by rw [hcs]; omega)
      rw [hrun] at hr
      injection hr with e1 e2
      subst e1
      injection hb' with hb'
      dsimp only at hb'
      subst hb'
      exact .inl rfl
    · have holds : ∀ j u, (zs.map (Value.int .u8))[j]? = some u → w.cell? ((⟨g, 0, none⟩ : Addr).add j) = some u := h.own.cells (g := g) rfl
      have hr := Lib.run_append_grow_string (P := Try.prog) w 25 9 25 5 i0 _ Try.underlying25 Try.underlying9 hi hz0 ⟨g, 0, none⟩ p cap (zs.map (Value.int .u8)) (by rw [hz1]; exact h.own.1) holds s (by omega) (by omega) (growslice_fits (by omega) (by rw [hz2]; omega))
      rw [hrun] at hr
      injection hr with e1 e2
      subst e1
      injection hb' with hb'
      dsimp only at hb'
      subst hb'
      exact .inr (Nat.le_refl _)
/-- An append to a row of one's own: the row as it was is still one's own. -/
theorem Mine.appendO {w : World} {base p : Nat} {v : Value} {zs : List Int} (h : Mine w base v p zs) {B m c : Nat} {a : Addr} {ys : List Int} (hy : Byt w B (some a) m c ys) (hm0 : 0 < m) (ty : TypeId) (hb : p + m ≤ 140737488355328) (hbase : base ≤ w.heap.size) :
    ∃ v' w', (Builtin.append_ #[25, 25] ty #[v, .slice (some a) m c]).run Try.prog w = .ok v' w' ∧ Mine w' base v' (p + m) (zs ++ ys) ∧ Mine w' base v p zs ∧ Below base w w' := by
  obtain ⟨i0, hi, hz0, hz1, hz2⟩ := info_parts info5
  obtain ⟨v', w', hr, hM, hK⟩ := h.appendX hy ty hb hbase
  refine ⟨v', w', hr, hM, ?_, hK.below hbase h.owned⟩
  have hcell : ∀ j u, (ys.map (Value.int .u8))[j]? = some u → w.cell? (a.add j) = some u := by
    intro j u hj
    have hjl : j < ys.length := by have := (List.getElem?_eq_some_iff.1 hj).1; simpa using this
    have hyl := hy.len
    obtain ⟨b, o, e, _, hc⟩ := hy.cell (by omega)
    injection e with e
    subst e
    have e2 : (⟨b, o, none⟩ : Addr).add j = ⟨b, o + j, none⟩ := by unfold Addr.add; split <;> simp_all
    rw [e2, hc j (by omega), ← hj]
    simp [List.getD, hjl]
  rcases h.own.2 with ⟨rfl, h0⟩ | ⟨g, cap, cur, rfl, hbg, hg, hnc, hcm, hcs, htake⟩
  · subst h0
    have : zs = [] := List.eq_nil_of_length_eq_zero h.len
    subst this
    exact Mine.nil _ _
  · rcases Nat.lt_or_ge cap (p + m) with hgrow | hroom
    · have holds : ∀ j u, (zs.map (Value.int .u8))[j]? = some u → w.cell? ((⟨g, 0, none⟩ : Addr).add j) = some u := h.own.cells (g := g) rfl
      have hr2 := run_append_grow (P := Try.prog) w 25 ty 5 i0 _ Try.underlying25 hi hz0 ⟨g, 0, none⟩ p cap (zs.map (Value.int .u8)) (by rw [hz1]; exact h.own.1) holds a m c (ys.map (Value.int .u8)) (by simp [hy.len, hz1]) hcell (by omega) (by omega) (growslice_fits (by omega) (by rw [hz2]; omega))
      rw [hr] at hr2
      injection hr2 with e1 e2
      subst e2
      refine h.same8 fun b hb _ => ?_
      injection hb with hb
      dsimp only at hb
      subst hb
      exact heap_alloc_old w.drew _ (h.lt g rfl)
    · have hr2 := run_append_room (P := Try.prog) w 25 ty 5 i0 Try.underlying25 hi g p cap cur hg a m c (ys.map (Value.int .u8)) (by simp [hy.len, hz1]) hcell (fun u hu => by obtain ⟨x, _, rfl⟩ := List.mem_map.1 hu; rfl) hroom (by rw [hcs, hz1, List.length_map, hy.len]; omega)
      rw [hr] at hr2
      injection hr2 with e1 e2
      subst e1
      rcases hM.own.2 with ⟨e, _⟩ | ⟨g', cap', cur', e, hbg', hg', hnc', hcm', hcs', htake'⟩
      · cases e
      · injection e with e1 e2 e3
        injection e1 with e1
        injection e1 with e1
        subst e1 e3
        refine ⟨⟨by have := h.len; simp [this], .inr ⟨g, cap, cur', rfl, hbg', hg', hnc, hcm', hcs', ?_⟩⟩, h.rng⟩
        have h1 := congrArg (List.take (p * 1)) htake'
        rw [List.take_take, Nat.min_eq_left (by omega)] at h1
        rw [h1, List.map_append, List.take_left' (by simp [h.len])]

theorem append_no (w : World) (A A2 : Option Addr) (p c c2 : Nat) (hle : p ≤ c) : (Builtin.append_ #[25, 25] 25 #[.slice A p c, .slice A2 0 c2]).run Try.prog w = .ok (.slice A p c) w := by
  obtain ⟨i0, hi, hz0, hz1, hz2⟩ := info_parts info5
  cases A <;> cases A2 <;> simp [Builtin.append_, run_underlying Try.underlying25, sizeOf, typeInfo, hi, Builtin.lenOf, hle, Builtin.firstCells, storeCells, loadCells, loadCellsFrom]
/-- Something or nothing appended; the row as it was. -/
theorem Mine.appendAny {w : World} {base p : Nat} {v : Value} {zs : List Int} (h : Mine w base v p zs) {B m c : Nat} {A : Option Addr} {ys : List Int} (hy : Byt w B A m c ys) (hb : p + m ≤ 140737488355328) (hbase : base ≤ w.heap.size) :
    ∃ v' w', (Builtin.append_ #[25, 25] 25 #[v, .slice A m c]).run Try.prog w = .ok v' w' ∧ Mine w' base v' (p + m) (zs ++ ys) ∧ Mine w' base v p zs ∧ Below base w w' := by
  by_cases hm : m = 0
  · subst hm
    have hys : ys = [] := List.eq_nil_of_length_eq_zero hy.len
    subst hys
    obtain ⟨A9, c9, hv, hby⟩ := h.byt
    subst hv
    exact ⟨_, w, append_no w A9 A p c9 c hby.cap, by simpa using h, h, Below.refl _ _⟩
  · obtain ⟨b, o, rfl, _, _⟩ := hy.cell (by omega)
    exact h.appendO hy (by omega) 25 hb hbase
theorem mine_of (w : World) (g base m : Nat) (X : List Int) (h : w.heap[g]? = some (.cells (u8s X).toArray 5 (0, 0))) (hb : base ≤ g) (hr : ∀ z ∈ X, 0 ≤ z ∧ z < 256) (hl : X.length = m) (hm : m ≤ 1000000) : Mine w base (.slice (some ⟨g, 0, none⟩) m m) m X :=
  ⟨⟨by simp [hl], .inr ⟨g, m, _, rfl, hb, h, Nat.le_refl _, by unfold maxLen; omega, by simp [u8s, hl], by simp [u8s, hl, List.take_of_length_le]⟩⟩, hr⟩
/-- A bracket ahead, a bracket behind. -/
theorem braced (W : World) (n c : Nat) (A : Option Addr) (b : List Int) (hb : Byt W W.heap.size A n c b) (hn : n ≤ 1000000) (x y : Int) (hx : 0 ≤ x ∧ x < 256) (hy : 0 ≤ y ∧ y < 256) :
    ∃ A9 n9 c9 W9, (Builtin.append_ #[25, 25] 25 #[.slice (some ⟨W.heap.size, 0, none⟩) 1 1, .slice A n c]).run Try.prog (W.alloc (.cells #[.int .u8 x] 5)) = .ok (.slice A9 n9 c9) W9 ∧
      ∃ A10 c10 W10, (Builtin.append_ #[25, 25] 25 #[.slice A9 n9 c9, .slice (some ⟨W9.heap.size, 0, none⟩) 1 1]).run Try.prog (W9.alloc (.cells #[.int .u8 y] 5)) = .ok (.slice A10 (n + 2) c10) W10 ∧ Mine W10 W.heap.size (.slice A10 (n + 2) c10) (n + 2) (x :: (b ++ [y])) ∧ Below W.heap.size W W10 := by
  have hb1 := (Below.refl W.heap.size W).alloc (Nat.le_refl _) (.cells #[.int .u8 x] 5)
  have hm0 : Mine (W.alloc (.cells #[.int .u8 x] 5)) W.heap.size (.slice (some ⟨W.heap.size, 0, none⟩) 1 1) 1 [x] := mine_of _ _ _ _ _ (heap_alloc_new W _) (Nat.le_refl _) (by simpa using hx) rfl (by omega)
  obtain ⟨v9, W9, hr9, hm9, hk9⟩ := hm0.appendX (hb.below hb1 (Nat.le_refl _)) 25 (by omega) hb1.size
  have hbl9 := hk9.below hb1.size hm0.owned
  obtain ⟨A9, c9, hv9, _⟩ := hm9.byt
  subst hv9
  have hb2 := (Below.refl W9.heap.size W9).alloc (Nat.le_refl _) (.cells #[.int .u8 y] 5)
  have hsz : W.heap.size ≤ W9.heap.size := Nat.le_trans hb1.size hk9.size
  obtain ⟨v10, W10, hr10, hm10, hk10⟩ := (hm9.kept hb2).appendX (byt_lit0 W9 y hy) 25 (by omega) (Nat.le_trans hsz hb2.size)
  have hbl10 := hk10.below (Nat.le_trans hsz hb2.size) (hm9.kept hb2).owned
  obtain ⟨A10, c10, hv10, _⟩ := hm10.byt
  subst hv10
  have e2 : 1 + n + 1 = n + 2 := by omega
  rw [e2] at hr10 hm10
  refine ⟨A9, 1 + n, c9, W9, hr9, A10, c10, W10, hr10, by simpa using hm10, hb1.trans (hbl9.trans ((hb2.mono hsz).trans hbl10))⟩
theorem piece_any (x : Int) (w : World) (x0 : 0 ≤ x) (x1 : x ≤ 255) : Calls Try.prog 27 #[.int .u8 x] w fun e w' => ∃ s t : ByteArray, e = .returned (.tuple #[.string s, .string t]) ∧ w = w' ∧ strZ s = pcS (x % 14).toNat ∧ strZ t = pcW (x % 14).toNat := by
  obtain ⟨i, hi⟩ : ∃ i : Nat, x % 14 = (i : Int) := ⟨(x % 14).toNat, by omega⟩
  have hi14 : i < 14 := by omega
  rw [show (x % 14).toNat = i by omega]
  have ht : x.tmod 14 = (i : Int) := by rw [Int.tmod_eq_emod_of_nonneg x0]; exact hi
  have wt : IntKind.u8.wrap (x.tmod 14) = (i : Int) := by rw [ht]; exact IntWalk.u8_in _ (by omega)
  have wi : IntKind.u8.wrap (i : Int) = (i : Int) := IntWalk.u8_in _ (by omega)
  obtain rfl | rfl | rfl | rfl | rfl | rfl | rfl | rfl | rfl | rfl | rfl | rfl | rfl | rfl : i = 0 ∨ i = 1 ∨ i = 2 ∨ i = 3 ∨ i = 4 ∨ i = 5 ∨ i = 6 ∨ i = 7 ∨ i = 8 ∨ i = 9 ∨ i = 10 ∨ i = 11 ∨ i = 12 ∨ i = 13 := by omega
  all_goals
    go_enter Try.func27, Try.ntmps27
    go_wp2_with fail
    go_ret2
    exact ⟨_, _, rfl, rfl, by decide, by decide⟩
end Go.Proofs.Ytojbhckgegoldaa
