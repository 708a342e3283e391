/- Chapter 8, the project's row of bits within a greater struct: fill. -/
import Derived.Test.YtpnnejedfccckaaPr8
import Derived.StillTailTactics
import Derived.Laws.Tables
import Derived.Deep.RegionHeld3
namespace Go.Proofs.Ytpnnejedfccckaa
open Go.RowKit
set_option linter.unusedVariables false
set_option maxRecDepth 100000

theorem fold_set (off : Nat) : ∀ (X : List Value) (k : Nat) (cs : List Value), off + k + X.length ≤ cs.length →
    (X.zipIdx k).foldl (fun (cs : Array Value) (x : Value × Nat) => cs.setIfInBounds (off + x.2) x.1) cs.toArray = (cs.take (off + k) ++ (X ++ cs.drop (off + k + X.length))).toArray
  | [], k, cs, h => by simp
  | x :: X, k, cs, h => by
    simp only [List.length_cons] at h
    rw [List.zipIdx_cons, List.foldl_cons, List.setIfInBounds_toArray, fold_set off X (k + 1) _ (by rw [List.length_set]; omega)]
    congr 1
    rw [List.drop_set_of_lt (by omega), List.length_cons, show off + (k + 1) + X.length = off + k + (X.length + 1) by omega, show off + (k + 1) = off + k + 1 by omega]
    rw [List.take_succ_eq_append_getElem (by rw [List.length_set]; omega), List.take_set]
    simp
    rw [List.set_eq_of_length_le (by rw [List.length_take]; omega)]
theorem piece_built (a : Option Addr) (X : List Value) (hX : X.length = 256) : Try.prog.built 83 [(0, .pointer a), (1, .agg X.toArray)] = some ((.pointer a :: X).toArray) := by
  have e : Try.prog.built 83 [(0, .pointer a), (1, .agg X.toArray)] = Instr.fill (#[(0, 1), (1, 256)][·]?) ((Value.pointer none :: List.replicate 256 (Value.int .u8 0)).toArray) [(0, .pointer a), (1, .agg X.toArray)] := by kernel_rfl
  rw [e]
  have hx : (Value.agg X.toArray).cells = X.toArray := rfl
  have hp : (Value.pointer a).cells = #[.pointer a] := rfl
  simp only [Instr.fill, hx, hp]
  have h1 := fold_set 1 X 0 (.pointer a :: List.replicate 256 (Value.int .u8 0)) (by simp [hX])
  simp [hX] at h1 ⊢
  rw [h1]
theorem wpOp_val {P : Program} {ops : Array Oper} {Q : Exit → Act → World → Prop} {i : Nat} {o : Oper} {K : Act → World → Prop} {a : Act} {w w' : World} {v : Value} (ho : ops[i]? = some o) (hw : Region.wanted o (yielded ops a.tmps) = true)
    (hr : (execOp a.eval o).run P w = .ok (.value v) w') (h : K (a.put o.dst v) w') : wpOp P ops Q i K a w := by
  unfold wpOp
  rw [ho]
  simp only [hw, if_true]
  exact .inl (by unfold Oper.wp; rw [hr]; exact h)
theorem wpOp_skip {P : Program} {ops : Array Oper} {Q : Exit → Act → World → Prop} {i : Nat} {o : Oper} {K : Act → World → Prop} {a : Act} {w w' : World} (ho : ops[i]? = some o) (hw : Region.wanted o (yielded ops a.tmps) = true)
    (hr : (execOp a.eval o).run P w = .ok .skip w') (h : K (a.put o.dst undef) w') : wpOp P ops Q i K a w := by
  unfold wpOp
  rw [ho]
  simp only [hw, if_true]
  exact .inl (by unfold Oper.wp; rw [hr]; exact h)
theorem exec_load {P : Program} {a : Act} {w : World} {o : Oper} (ty : TypeId) (x : Operand) (ho : o.op = .load ty x) (p u : Value) (hx : a.eval x = p) (hl : (Instr.loadAt ty p).run P w = .ok u w) : (execOp a.eval o).run P w = .ok (.value u) w := by
  unfold execOp
  simp only [ho, hx, Sem.run_bind, hl, Result.andThen_ok, Sem.run_pure]
theorem exec_build2 {P : Program} {a : Act} {w : World} {o : Oper} (ty : TypeId) (x y : Operand) (ho : o.op = .build ty #[(0, x), (1, y)]) (u v : Value) (hx : a.eval x = u) (hy : a.eval y = v) (Y : Value)
    (hl : (Instr.build ty #[(0, u), (1, v)]).run P w = .ok Y w) : (execOp a.eval o).run P w = .ok (.value Y) w := by
  unfold execOp
  simp [ho, hx, hy, hl, Result.andThen]
theorem rangeAt_set0 {w : World} {g : Nat} {X : List Value} (h : w.rangeAt g 1 X) (v : Value) : (w.setCell ⟨g, 0, none⟩ v).rangeAt g 1 X := fun j u hj => by
  rw [World.cell?_setCell_other _ _ _ _ (by simp)]
  exact h j u hj
theorem Chain.ptr {w : World} : ∀ {bs : List Nat} {p : Value} {zs : List Int}, Chain w bs p zs → ∃ a, p = .pointer a
  | [], _, _, h => ⟨none, h.1⟩
  | b :: bs, _, _, h => ⟨_, h.1⟩
set_option maxHeartbeats 1000000 in
theorem fillC (g : Nat) (T : TypeId) (XT : List Value) (bs : List Nat) (p : Value) (part F : List Int) (R c : Int) (m : Nat) (w : World) (h : PR w g T XT bs p part F R m) (hc : 0 ≤ c ∧ c < 256) (hF : F.length ≤ 800000000) :
    Calls Try.prog 42 #[.pointer (some ⟨g, 0, none⟩), .int .u8 c] w fun r w' => r = .returned (.tuple #[]) ∧ ∃ bs' p' part', PR w' g T XT bs' p' part' (F ++ [c]) R m ∧ Only g w w' ∧ ∀ b, b ∈ bs' → b ∈ bs ∨ w.heap.size ≤ b := by
  have H := Lib.hid h
  have hbl := h.bl
  obtain ⟨L, hL⟩ : ∃ L, F.length = L := ⟨_, rfl⟩
  obtain ⟨Q, hQ⟩ : ∃ Q, L % 256 = Q := ⟨_, rfl⟩
  have hQ256 : Q < 256 := by omega
  have c257 := h.c257
  rw [hL] at c257
  have cq := h.cpart Q hQ256
  have fq := h.fr (1 + Q)
  have f257 := h.fr 257
  have f0 := h.fr 0
  have hglt := h.lt
  -- behind the byte and the count
  obtain ⟨W2, hW2⟩ : ∃ W2, ((w.drewN 1).setCell ⟨g, 1 + Q, none⟩ (.int .u8 c)).setCell ⟨g, 257, none⟩ (.int .i64 ((L : Int) + 1)) = W2 := ⟨_, rfl⟩
  have hb2 := (h.drewN 1).fill1 c ((L : Int) + 1) Q hc (by rw [hL]) (by rw [hL, hQ])
  rw [hW2] at hb2
  have ht2 := h.tail1 c
  rw [hL, hQ] at ht2
  obtain ⟨part2, hp2⟩ : ∃ part2, part.set Q c = part2 := ⟨_, rfl⟩
  rw [hp2] at hb2 ht2
  have hpl2 : part2.length = 256 := by rw [← hp2, List.length_set]; exact h.pl
  have hch2 : Chain W2 bs p (F.take (256 * bs.length)) := h.ch.keep fun b hb => by
    rw [← hW2, Below.heap_setCell _ ⟨g, 257, none⟩ _ b (h.ne b hb).1, Below.heap_setCell _ ⟨g, 1 + Q, none⟩ _ b (h.ne b hb).1]
    rfl
  have hon2 : Only g w W2 := by rw [← hW2]; exact (((Only.refl g w).drewN 1).set_ _ _).set_ _ _
  have hrng2 : ∀ z ∈ F ++ [c], 0 ≤ z ∧ z < 256 := fun z hz => by
    rcases List.mem_append.1 hz with hz | hz
    · exact h.rng z hz
    · simp at hz; subst hz; exact hc
  have hlen2 : (F ++ [c]).length = L + 1 := by rw [List.length_append, hL]; rfl
  have c257b : W2.cell? ⟨g, 257, none⟩ = some (.int .i64 ((L : Int) + 1)) := by
    rw [cell_of_row W2 g 257 _ T (0, 0) hb2]
    exact (row_at p part2 _ hpl2 0).trans (by simp [hL])
  have d1 : (L : Int) % 256 = Q := by omega
  have d1t : (L : Int).tmod 256 = Q := by rw [Int.tmod_eq_emod_of_nonneg (by omega)]; exact d1
  have wQ : IntKind.i64.wrap (Q : Int) = Q := IntWalk.i64_in _ (by omega)
  have hQi : (Q : Int) < 256 := by omega
  have hLb : (L : Int) ≤ 800000000 := by omega
  have hne1 : ¬ (1 + Q = 257) := by omega
  have hne2 : ¬ (257 = 1 + Q) := by omega
  have HL := Lib.hid hL
  have HQ := Lib.hid hQ
  have HB2 := Lib.hid hb2
  have HT2 := Lib.hid ht2
  have HP2 := Lib.hid hpl2
  have HC2 := Lib.hid hch2
  have HO2 := Lib.hid hon2
  have HR2 := Lib.hid hrng2
  have HLE := Lib.hid hlen2
  have HBL := Lib.hid hbl
  clear h hbl hL hQ hb2 ht2 hp2 hpl2 hch2 hon2 hrng2 hlen2
  by_cases hfull : (L + 1) % 256 = 0
  · have t0 : (((L : Int) + 1) % 256 == 0) = true := beq_iff_eq.2 (by omega)
    have HFULL := Lib.hid hfull
    obtain ⟨a, hpa⟩ := H.out.ch.ptr
    subst hpa
    obtain ⟨X, hX⟩ : ∃ X, u8s part2 = X := ⟨_, rfl⟩
    have hXl : X.length = 256 := by rw [← hX]; simp [u8s, HP2.out]
    have hblk := HB2.out
    rw [hX] at hblk
    have c0b : W2.cell? ⟨g, 0, none⟩ = some (.pointer a) := by rw [cell_of_row W2 g 0 _ T (0, 0) hblk]; rfl
    have f0b : W2.frozen? ⟨g, 0, none⟩ = false := by simp [World.frozen?, hblk]
    have hg2 : g < W2.heap.size := Nat.lt_of_lt_of_le hglt HO2.out.size
    have hrange : ∀ k, (W2.drewN k).rangeAt g 1 X := fun k j v hj => by
      have hlt : j < X.length := (List.getElem?_eq_some_iff.1 hj).1
      have hc := cell_of_row W2 g (1 + j) _ T (0, 0) hblk
      show W2.cell? ⟨g, 1 + j, none⟩ = some v
      rw [hc, Nat.add_comm 1 j]
      simp [List.getElem?_append_left hlt, hj]
    have hld : (Instr.loadAt 47 (.pointer (some ⟨g, 1, none⟩))).run Try.prog { heap := W2.heap, tape := W2.tape, drawn := W2.drawn + 1, os := W2.os, output := W2.output } = .ok (.agg X.toArray) { heap := W2.heap, tape := W2.tape, drawn := W2.drawn + 1, os := W2.os, output := W2.output } :=
      run_loadAt_mid (P := Try.prog) (W2.drewN 1) g 1 47 X _ (hrange 1) Try.underlying47 rfl (by rw [hXl]; kernel_rfl)
    have hbd : ∀ W, (Instr.build 83 #[(0, .pointer a), (1, .agg X.toArray)]).run Try.prog W = .ok (.agg (Value.pointer a :: X).toArray) W := fun W => run_build W _ _ _ (piece_built a X hXl)
    obtain ⟨Y, hY⟩ : ∃ Y : Array Value, X.toArray = Y := ⟨_, rfl⟩
    obtain ⟨Z, hZ⟩ : ∃ Z : Array Value, (Value.pointer a :: X).toArray = Z := ⟨_, rfl⟩
    rw [hY] at hld hbd
    rw [hZ] at hbd
    have HLD := Lib.hid hld
    have HBD := Lib.hid hbd
    have HZ := Lib.hid hZ
    clear hld hbd hY hZ
    have HX := Lib.hid hX
    have HG2 := Lib.hid hg2
    clear hX hXl hblk hrange hfull
    go_enter Try.func42, Try.ntmps42
    go_upto_region 0 with fail
    go_still_tail 10, (by kernel_rfl)
    change wpList _ _ _ _ _ (w.drewN 1)
    go_upto_region 3 with fail
    clear c257 cq fq f257 hW2
    refine wp_region_noPanic ?_
    refine wp_region_any (by kernel_rfl) ?_
    refine wpAny_take (i := 0) (oi := ⟨some 27, .move (.tmp 0), _, _, _, none⟩) (v := .pointer (some ⟨g, 0, none⟩)) rfl (by kernel_rfl) (by kernel_rfl) (by kernel_rfl) (fun _ _ _ h => h) (Or.inl ⟨by rfl, fun w => by go_simp⟩) ?_
    simp only [Act.put, List.setIfInBounds_toArray, List.set_cons_zero, List.set_cons_succ]
    refine wpAny_take (i := 1) (oi := ⟨some 28, .move (.tmp 0), _, _, _, none⟩) (v := .pointer (some ⟨g, 0, none⟩)) rfl (by kernel_rfl) (by kernel_rfl) (by kernel_rfl) (fun _ _ _ h => h) (Or.inl ⟨by rfl, fun w => by go_simp⟩) ?_
    simp only [Act.put, List.setIfInBounds_toArray, List.set_cons_zero, List.set_cons_succ]
    refine wpAny_take (i := 2) (oi := ⟨some 29, .nilCheck (.tmp 28), _, _, _, none⟩) (v := .pointer (some ⟨g, 0, none⟩)) rfl (by kernel_rfl) (by kernel_rfl) (by kernel_rfl) (fun _ _ _ h => h) (Or.inl ⟨by rfl, fun w => by go_simp⟩) ?_
    simp only [Act.put, List.setIfInBounds_toArray, List.set_cons_zero, List.set_cons_succ]
    refine wpAny_take (i := 3) (oi := ⟨some 30, .fieldAddr 49 (.tmp 29) 0, _, _, _, none⟩) (v := .pointer (some ⟨g, 0, none⟩)) rfl (by kernel_rfl) (by kernel_rfl) (by kernel_rfl) (fun _ _ _ h => h) (Or.inl ⟨by rfl, fun w => by go_simp⟩) ?_
    simp only [Act.put, List.setIfInBounds_toArray, List.set_cons_zero, List.set_cons_succ]
    refine wpAny_take (i := 5) (oi := ⟨some 32, .move (.tmp 0), _, _, _, none⟩) (v := .pointer (some ⟨g, 0, none⟩)) rfl (by kernel_rfl) (by kernel_rfl) (by kernel_rfl) (fun _ _ _ h => h) (Or.inl ⟨by rfl, fun w => by go_simp⟩) ?_
    simp only [Act.put, List.setIfInBounds_toArray, List.set_cons_zero, List.set_cons_succ]
    refine wpAny_take (i := 6) (oi := ⟨some 33, .nilCheck (.tmp 32), _, _, _, none⟩) (v := .pointer (some ⟨g, 0, none⟩)) rfl (by kernel_rfl) (by kernel_rfl) (by kernel_rfl) (fun _ _ _ h => h) (Or.inl ⟨by rfl, fun w => by go_simp⟩) ?_
    simp only [Act.put, List.setIfInBounds_toArray, List.set_cons_zero, List.set_cons_succ]
    refine wpAny_take (i := 7) (oi := ⟨some 34, .fieldAddr 49 (.tmp 33) 1, _, _, _, none⟩) (v := .pointer (some ⟨g, 1, none⟩)) rfl (by kernel_rfl) (by kernel_rfl) (by kernel_rfl) (fun _ _ _ h => h) (Or.inl ⟨by rfl, fun w => by go_simp⟩) ?_
    simp only [Act.put, List.setIfInBounds_toArray, List.set_cons_zero, List.set_cons_succ]
    refine wpAny_all (rs := [4, 8]) (by kernel_rfl) (by simp) ?_
    intro i hi
    have hi48 : i = 4 ∨ i = 8 := by simpa using hi
    clear hi
    rcases hi48 with rfl | rfl
    case' inl =>
      refine wpOp_val (o := ⟨some 31, .load 46 (.tmp 30), _, _, _, none⟩) rfl rfl (v := .pointer a) (w' := { heap := W2.heap, tape := W2.tape, drawn := W2.drawn + 1, os := W2.os, output := W2.output }) (by go_simp) ?_
      simp only [Act.put, List.setIfInBounds_toArray, List.set_cons_zero, List.set_cons_succ]
      refine wpAny_all (rs := [8]) (by kernel_rfl) (by simp) ?_
      intro i hi
      obtain rfl : i = 8 := by simpa using hi
      refine wpOp_val (o := ⟨some 35, .load 47 (.tmp 34), _, _, _, none⟩) rfl rfl (v := .agg Y) (w' := { heap := W2.heap, tape := W2.tape, drawn := W2.drawn + 1, os := W2.os, output := W2.output }) (exec_load 47 (.tmp 34) rfl (.pointer (some ⟨g, 1, none⟩)) (.agg Y) rfl HLD.out) ?_
      simp only [Act.put, List.setIfInBounds_toArray, List.set_cons_zero, List.set_cons_succ]
    case' inr =>
      refine wpOp_val (o := ⟨some 35, .load 47 (.tmp 34), _, _, _, none⟩) rfl rfl (v := .agg Y) (w' := { heap := W2.heap, tape := W2.tape, drawn := W2.drawn + 1, os := W2.os, output := W2.output }) (exec_load 47 (.tmp 34) rfl (.pointer (some ⟨g, 1, none⟩)) (.agg Y) rfl HLD.out) ?_
      simp only [Act.put, List.setIfInBounds_toArray, List.set_cons_zero, List.set_cons_succ]
      refine wpAny_all (rs := [4]) (by kernel_rfl) (by simp) ?_
      intro i hi
      obtain rfl : i = 4 := by simpa using hi
      refine wpOp_val (o := ⟨some 31, .load 46 (.tmp 30), _, _, _, none⟩) rfl rfl (v := .pointer a) (w' := { heap := W2.heap, tape := W2.tape, drawn := W2.drawn + 1, os := W2.os, output := W2.output }) (by go_simp) ?_
      simp only [Act.put, List.setIfInBounds_toArray, List.set_cons_zero, List.set_cons_succ]
    all_goals
      refine wpAny_take (i := 9) (oi := ⟨some 36, .build 83 #[(0, .tmp 31), (1, .tmp 35)], _, _, _, none⟩) (v := .agg Z) rfl (by kernel_rfl) (by kernel_rfl) (by kernel_rfl) (fun _ _ _ h => h) (Or.inl ⟨by rfl, fun w => exec_build2 83 (.tmp 31) (.tmp 35) rfl (.pointer a) (.agg Y) rfl rfl (.agg Z) (HBD.out w)⟩) ?_
      simp only [Act.put, List.setIfInBounds_toArray, List.set_cons_zero, List.set_cons_succ]
      refine wpAny_all (rs := [10]) (by kernel_rfl) (by simp) ?_
      intro i hi
      obtain rfl : i = 10 := by simpa using hi
      refine wpOp_val (o := ⟨some 37, .box 83 (.tmp 36), _, _, _, none⟩) rfl rfl (v := .pointer (some ⟨W2.heap.size, 0, none⟩)) (w' := World.alloc { heap := W2.heap, tape := W2.tape, drawn := W2.drawn + 1, os := W2.os, output := W2.output } (.cells Z 83)) (by go_simp) ?_
      simp only [Act.put, List.setIfInBounds_toArray, List.set_cons_zero, List.set_cons_succ]
      refine wpAny_take (i := 11) (oi := ⟨some 38, .nilCheck (.tmp 27), _, _, _, none⟩) (v := .pointer (some ⟨g, 0, none⟩)) rfl (by kernel_rfl) (by kernel_rfl) (by kernel_rfl) (fun _ _ _ h => h) (Or.inl ⟨by rfl, fun w => by go_simp⟩) ?_
      simp only [Act.put, List.setIfInBounds_toArray, List.set_cons_zero, List.set_cons_succ]
      refine wpAny_take (i := 12) (oi := ⟨some 39, .fieldAddr 49 (.tmp 38) 0, _, _, _, none⟩) (v := .pointer (some ⟨g, 0, none⟩)) rfl (by kernel_rfl) (by kernel_rfl) (by kernel_rfl) (fun _ _ _ h => h) (Or.inl ⟨by rfl, fun w => by go_simp⟩) ?_
      simp only [Act.put, List.setIfInBounds_toArray, List.set_cons_zero, List.set_cons_succ]
      refine wpAny_all (rs := [13]) (by kernel_rfl) (by simp) ?_
      intro i hi
      obtain rfl : i = 13 := by simpa using hi
      refine wpOp_skip (o := ⟨none, .store 46 (.tmp 39) (.tmp 37), _, _, _, none⟩) rfl rfl (w' := (World.alloc { heap := W2.heap, tape := W2.tape, drawn := W2.drawn + 1, os := W2.os, output := W2.output } (.cells Z 83)).setCell ⟨g, 0, none⟩ (.pointer (some ⟨W2.heap.size, 0, none⟩))) (by go_simp) ?_
      refine wpAny_done (by kernel_rfl) ?_ _
      refine NoPanic.normal ?_
      (try simp only)
      refine ⟨rfl, _, results_none rfl _ _ _, ?_⟩
      have h := H.out
      have hl := HL.out
      have hbl := HBL.out
      have hle := HLE.out
      have hf := HFULL.out
      have hqq := HQ.out
      have hb2 := HB2.out
      have hg2' := HG2.out
      obtain ⟨W3, hW3⟩ : ∃ W3, ((W2.drewN 1).alloc (.cells Z 83)).setCell ⟨g, 0, none⟩ (.pointer (some ⟨W2.heap.size, 0, none⟩)) = W3 := ⟨_, rfl⟩
      have hold : ∀ i, i < W2.heap.size → i ≠ g → W3.heap[i]? = W2.heap[i]? := fun i hi hne => by
        rw [← hW3]
        exact (Below.heap_setCell _ ⟨g, 0, none⟩ _ i hne).trans (((Below.refl W2.heap.size W2).alloc (Nat.le_refl _) (.cells Z 83)).block i hi)
      have hnew : W3.heap[W2.heap.size]? = some (.cells (Value.pointer a :: X).toArray 83 (0, 0)) := by
        rw [← hW3, HZ.out]
        exact (Below.heap_setCell _ ⟨g, 0, none⟩ _ _ (by show W2.heap.size ≠ g; omega)).trans (heap_alloc_new (W2.drewN 1) _)
      have hg3 : W3.heap[g]? = some (.cells ((.pointer (some ⟨W2.heap.size, 0, none⟩) :: (u8s part2 ++ .int .i64 (F ++ [c]).length :: .int .i64 R :: .int .i64 m :: XT)).toArray) T (0, 0)) := by
        rw [← hW3]
        exact heap_set _ g 0 _ _ T ((((Below.refl W2.heap.size W2).alloc (Nat.le_refl _) (.cells Z 83)).block g hg2').trans hb2)
      have hon3 : Only g w W3 := by
        have h2 := HO2.out
        refine h2.trans ⟨?_, ?_, ?_, ?_, hold⟩
        · rw [← hW3]; rfl
        · rw [← hW3]; rfl
        · rw [← hW3]; rfl
        · rw [← hW3]
          simp [World.setCell]
      have hws := HO2.out.size
      have hs3 : W2.heap.size < W3.heap.size := by
        rcases Nat.lt_or_ge W2.heap.size W3.heap.size with hlt | hge
        · exact hlt
        · rw [Array.getElem?_eq_none hge] at hnew; cases hnew
      have ht2 := HT2.out
      rw [show Q + 1 = 256 by omega, List.take_of_length_le (by rw [HP2.out]; exact Nat.le_refl _)] at ht2
      rw [show World.setCell (World.alloc { heap := W2.heap, tape := W2.tape, drawn := W2.drawn + 1, os := W2.os, output := W2.output } (.cells Z 83)) ⟨g, 0, none⟩ (.pointer (some ⟨W2.heap.size, 0, none⟩)) = W3 from hW3]
      refine ⟨rfl, W2.heap.size :: bs, _, part2, ⟨hg3, HP2.out, ?_, by rw [List.length_cons]; omega, ?_, fun b hb => ?_, HR2.out⟩, hon3, fun b hb => ?_⟩
      · refine ⟨rfl, .pointer a, F.take (256 * bs.length), part2, ?_, HP2.out, by rw [HX.out]; exact hnew, HC2.out.keep fun b hb => hold b (Nat.lt_of_lt_of_le (h.ne b hb).2 hws) (h.ne b hb).1⟩
        have e := List.take_append_drop (256 * bs.length) (F ++ [c])
        rw [List.take_append_of_le_length (by omega), ← ht2] at e
        rw [List.length_cons, List.take_of_length_le (by omega)]
        exact e.symm
      · rw [hle, hf, List.take_zero, List.length_cons, List.drop_eq_nil_of_le (by omega)]
      · rcases List.mem_cons.1 hb with rfl | hb
        · exact ⟨by have := HG2.out; omega, hs3⟩
        · exact ⟨(h.ne b hb).1, by have := (h.ne b hb).2; omega⟩
      · rcases List.mem_cons.1 hb with rfl | hb
        · exact .inr hws
        · exact .inl hb
  · have t0 : (((L : Int) + 1) % 256 == 0) = false := beq_eq_false_iff_ne.2 (by omega)
    clear hfull
    go_enter Try.func42, Try.ntmps42
    go_upto_region 0 with fail
    go_still_tail 10, (by kernel_rfl)
    change wpList _ _ _ _ _ (w.drewN 1)
    go_wp2_with fail
    (try simp only [Exit.inBlock, Exit.then])
    refine ⟨rfl, _, results_none rfl _ _ _, ?_⟩
    have h := H.out
    have hl := HL.out
    have hq := HQ.out
    have hbl := HBL.out
    have hle := HLE.out
    have hmod : (L + 1) % 256 = Q + 1 := by
      have : ¬ (L + 1) % 256 = 0 := fun e => by
        have := beq_eq_false_iff_ne.1 t0
        omega
      omega
    refine ⟨rfl, bs, p, part2, ⟨HB2.out, HP2.out, ?_, by omega, ?_, fun b hb => ⟨(h.ne b hb).1, Nat.lt_of_lt_of_le (h.ne b hb).2 HO2.out.size⟩, HR2.out⟩, HO2.out, fun b hb => .inl hb⟩
    · rw [List.take_append_of_le_length (by omega)]
      exact HC2.out
    · rw [hle, hmod]
      exact HT2.out
end Go.Proofs.Ytpnnejedfccckaa
