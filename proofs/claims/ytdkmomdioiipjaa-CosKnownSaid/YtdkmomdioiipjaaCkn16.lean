/- Contracts of functions that the law calls, and what they lean on (a part). -/
import Derived.Test.YtdkmomdioiipjaaCkn15
namespace Go.Proofs.Ytdkmomdioiipjaa
section
open Go.RowKit Go.Sort
set_option linter.unusedVariables false
set_option maxRecDepth 100000
abbrev nilV : Value := .slice none 0 0
def usedV (k n : Int) (vB vL vD : Value) : Value :=
  if k = 1 ∨ k = 2 ∨ k = 3 ∨ k = 9 then .agg #[.int .i64 k, .int .i64 n, nilV, nilV, nilV]
  else if k = 4 ∨ k = 5 then .agg #[.int .i64 k, .int .i64 0, vB, nilV, nilV]
  else if k = 6 then .agg #[.int .i64 k, .int .i64 0, nilV, vL, nilV]
  else if k = 7 then .agg #[.int .i64 k, .int .i64 0, nilV, nilV, vD]
  else if k = 8 then .agg #[.int .i64 k, .int .i64 0, vB, nilV, vD]
  else .agg #[.int .i64 0, .int .i64 0, nilV, nilV, nilV]
theorem pNone0 (w : World) : Calls Try.prog 37 #[] w fun e w' => e = .returned (.agg #[.int .i64 0, .int .i64 0, nilV, nilV, nilV]) ∧ Below w.heap.size w w' := by
  go_enter Try.func37, Try.ntmps37
  go_wp2_with fail
  exact bodyPost_ret (results_cell_row rfl _ _ w.heap.size 27 _ (0, 0) _ rfl (heap_alloc_new w _) Try.underlying27 rfl (by kernel_rfl)) rfl ⟨rfl, (Below.refl _ _).alloc (Nat.le_refl _) _⟩
set_option maxHeartbeats 4000000 in
theorem usedC (k n : Int) (A2 A3 A4 : Option Addr) (m2 c2 m3 c3 m4 c4 : Nat) (w : World) :
    Calls Try.prog 56 #[.agg #[.int .i64 k, .int .i64 n, .slice A2 m2 c2, .slice A3 m3 c3, .slice A4 m4 c4]] w fun e w' => e = .returned (usedV k n (.slice A2 m2 c2) (.slice A3 m3 c3) (.slice A4 m4 c4)) ∧ Below w.heap.size w w' := by
  have HU := usesC k
  have HB : Hid (∀ o1 o2 : Obj, Below w.heap.size w ((w.alloc o1).alloc o2)) := Lib.hid (fun o1 o2 => ((Below.refl _ _).alloc (Nat.le_refl _) o1).alloc (by simp) o2)
  by_cases h : k = 1 ∨ k = 2 ∨ k = 3 ∨ k = 4 ∨ k = 5 ∨ k = 6 ∨ k = 7 ∨ k = 8 ∨ k = 9
  · rcases h with rfl | rfl | rfl | rfl | rfl | rfl | rfl | rfl | rfl
    all_goals
      simp [usesZ] at HU
      go_enter Try.func56, Try.ntmps56
      go_wp2_with (go_at_call 63; refine (HU _).mono ?_; rintro e w' ⟨rfl, rfl⟩)
      refine bodyPost_ret (results_cell_row rfl _ _ (w.heap.size + 1) 27 _ (0, 0) _ rfl (heap_alloc2_new w _ _) Try.underlying27 rfl (by kernel_rfl)) rfl ?_
      exact ⟨by simp [usedV], HB.out _ _⟩
  · have e : usesZ k = 0 := by unfold usesZ; rw [if_neg (by omega), if_neg (by omega), if_neg (by omega), if_neg (by omega), if_neg (by omega)]
    have e2 : usedV k n (.slice A2 m2 c2) (.slice A3 m3 c3) (.slice A4 m4 c4) = .agg #[.int .i64 0, .int .i64 0, nilV, nilV, nilV] := by unfold usedV; rw [if_neg (by omega), if_neg (by omega), if_neg (by omega), if_neg (by omega), if_neg (by omega)]
    rw [e2]
    rw [e] at HU
    have HB2 := Lib.hid (HB.out (.cells #[.int .i64 k, .int .i64 n, .slice A2 m2 c2, .slice A3 m3 c3, .slice A4 m4 c4] 27) (.cells #[.int .i64 0, .int .i64 0, .slice none 0 0, .slice none 0 0, .slice none 0 0] 27))
    have hn := heap_alloc2_new w (.cells #[.int .i64 k, .int .i64 n, .slice A2 m2 c2, .slice A3 m3 c3, .slice A4 m4 c4] 27) (.cells #[.int .i64 0, .int .i64 0, .slice none 0 0, .slice none 0 0, .slice none 0 0] 27)
    have hsz : ((w.alloc (.cells #[.int .i64 k, .int .i64 n, .slice A2 m2 c2, .slice A3 m3 c3, .slice A4 m4 c4] 27)).alloc (.cells #[.int .i64 0, .int .i64 0, .slice none 0 0, .slice none 0 0, .slice none 0 0] 27)).heap.size = w.heap.size + 2 := by simp
    have hk0 : ((w.alloc (.cells #[.int .i64 k, .int .i64 n, .slice A2 m2 c2, .slice A3 m3 c3, .slice A4 m4 c4] 27)).alloc (.cells #[.int .i64 0, .int .i64 0, .slice none 0 0, .slice none 0 0, .slice none 0 0] 27)).cell? ⟨w.heap.size, 0, none⟩ = some (.int .i64 k) := by simp
    obtain ⟨W2, hW2⟩ : ∃ W2, (w.alloc (.cells #[.int .i64 k, .int .i64 n, .slice A2 m2 c2, .slice A3 m3 c3, .slice A4 m4 c4] 27)).alloc (.cells #[.int .i64 0, .int .i64 0, .slice none 0 0, .slice none 0 0, .slice none 0 0] 27) = W2 := ⟨_, rfl⟩
    rw [hW2] at HB2 hn hsz hk0
    have HN := Lib.hid hn
    have HZ := Lib.hid hsz
    have HW2 := Lib.hid hW2
    clear h e e2 hn hsz hW2 HB
    go_enter Try.func56, Try.ntmps56
    go_upto_region 1 with fail
    rw [HW2.out]
    go_wp2_with (first | (go_at_call 63; refine (HU _).mono ?_; rintro e w' ⟨rfl, rfl⟩) | (go_at_call 37; refine (pNone0 _).mono ?_; (rintro r w3 ⟨rfl, hb3⟩); have HN3 := Lib.hid (blk_keep9 hb3 HN.out); have HB3 := Lib.hid (HB2.out.trans (hb3.mono HB2.out.size)); (obtain ⟨r0, r1, r2, r3, r4, r5⟩ := zero_cells HN3.out); clear hb3 hk0))
    refine bodyPost_ret (results_cell_row rfl _ _ (w.heap.size + 1) 27 _ (0, 0) _ rfl (set5_row HN3.out) Try.underlying27 rfl (by kernel_rfl)) rfl ?_
    exact ⟨rfl, below_set5 HB3.out (Nat.le_succ _)⟩
abbrev zeroOb : Ob := .mk 0 0 [] .nil .nil
/-- The entries of an object that has some. -/
def keyedE : Ob → Ens
  | .mk k _ _ _ d => if k = 7 ∨ k = 8 then d else .nil
def getF (x : Ob) (key : ByteArray) : Ob := (lk (keyedE x).toL key).getD zeroOb
theorem used_D {w : World} {S : Nat → Prop} {x : Ob} {c0 c1 c2 c3 c4 : Value} (hx : ObR w S x c0 c1 c2 c3 c4) : ∃ A c, EnsV w S (keyedE x) A c ∧ ∀ W, Calls Try.prog 56 #[.agg #[c0, c1, c2, c3, c4]] W fun e w' => (∃ k9 n9 A29 m29 c29 A39 m39 c39, e = .returned (.agg #[.int .i64 k9, .int .i64 n9, .slice A29 m29 c29, .slice A39 m39 c39, .slice A (keyedE x).len c])) ∧ Below W.heap.size W w' := by
  obtain ⟨k, n, b, l, d⟩ := x
  unfold ObR at hx
  obtain ⟨rfl, rfl, hk, hn, ⟨A2, m2, c2, rfl, hB⟩, ⟨A3, c3, rfl, h3, hl⟩, ⟨A4, c4, rfl, h4, hd⟩⟩ := hx
  by_cases h : k = 7 ∨ k = 8
  · have e : keyedE (.mk k n b l d) = d := by rw [keyedE, if_pos h]
    rw [e]
    refine ⟨A4, c4, ⟨h4, hd⟩, fun W => (usedC k n A2 A3 A4 m2 c2 l.len c3 d.len c4 W).mono ?_⟩
    rintro e w' ⟨rfl, hb⟩
    refine ⟨?_, hb⟩
    unfold usedV
    rcases h with rfl | rfl
    · exact ⟨_, _, _, _, _, _, _, _, by rw [if_neg (by omega), if_neg (by omega), if_neg (by omega), if_pos rfl]⟩
    · exact ⟨_, _, _, _, _, _, _, _, by rw [if_neg (by omega), if_neg (by omega), if_neg (by omega), if_neg (by omega), if_pos rfl]⟩
  · have e : keyedE (.mk k n b l d) = .nil := by rw [keyedE, if_neg h]
    rw [e]
    refine ⟨none, 0, ⟨by simp [Ens.len], fun h => by simp [Ens.len] at h⟩, fun W => (usedC k n A2 A3 A4 m2 c2 l.len c3 d.len c4 W).mono ?_⟩
    rintro e w' ⟨rfl, hb⟩
    refine ⟨?_, hb⟩
    unfold usedV
    split
    · exact ⟨_, _, _, _, _, _, _, _, rfl⟩
    · split
      · exact ⟨_, _, _, _, _, _, _, _, rfl⟩
      · split
        · exact ⟨_, _, _, _, _, _, _, _, rfl⟩
        · rw [if_neg (fun e => h (.inl e)), if_neg (fun e => h (.inr e))]
          exact ⟨_, _, _, _, _, _, _, _, rfl⟩
theorem Ens.get_none : ∀ (l : Ens) (j : Nat), l.len ≤ j → l.get? j = none
  | .nil, j, _ => rfl
  | .cons t y ys, 0, h => by simp [Ens.len] at h
  | .cons t y ys, j + 1, h => by rw [Ens.get?]; exact Ens.get_none ys j (by rw [Ens.len] at h; omega)
theorem lk_get : ∀ (l : Ens) (i : Nat) (s : ByteArray) (x : Ob), l.get? i = some (s, x) → (∀ j t y, j < i → l.get? j = some (t, y) → t ≠ s) → lk l.toL s = some x
  | .nil, i, s, x, h, _ => by simp [Ens.get?] at h
  | .cons t y ys, 0, s, x, h, _ => by
    simp [Ens.get?] at h; obtain ⟨rfl, rfl⟩ := h
    rw [Ens.toL, lk, if_pos rfl]
  | .cons t y ys, i + 1, s, x, h, hn => by
    rw [Ens.toL, lk, if_neg (hn 0 t y (by omega) rfl)]
    exact lk_get ys i s x (by simpa [Ens.get?] using h) (fun j u z hj hu => hn (j + 1) u z (by omega) (by rw [Ens.get?]; exact hu))
theorem lk_no : ∀ (l : Ens) (s : ByteArray), (∀ j t y, l.get? j = some (t, y) → t ≠ s) → lk l.toL s = none
  | .nil, s, _ => rfl
  | .cons t y ys, s, hn => by
    rw [Ens.toL, lk, if_neg (hn 0 t y rfl)]
    exact lk_no ys s (fun j u z hu => hn (j + 1) u z (by rw [Ens.get?]; exact hu))
set_option maxHeartbeats 4000000 in
theorem pGetC (W : Nat) (x : Ob) (key : ByteArray) (S : Nat → Prop) (w : World) (c0 c1 c2 c3 c4 : Value) (hx : ObR w S x c0 c1 c2 c3 c4) (hS : ∀ g, S g → g < w.heap.size) (hW : wdE W (keyedE x)) (hK : W * htE (keyedE x) ≤ 1000000000) (hlen : (keyedE x).len ≤ 1000000000) :
    Calls Try.prog 35 #[.agg #[c0, c1, c2, c3, c4], .string key] w (CpP w (getF x key)) := by
  obtain ⟨A, c, hv, hu⟩ := used_D hx
  have hg : getF x key = (lk (keyedE x).toL key).getD zeroOb := rfl
  rw [hg]
  obtain ⟨E, hE⟩ : ∃ E, keyedE x = E := ⟨_, rfl⟩
  rw [hE] at hv hu hW hK hlen ⊢
  have a1 := (Below.refl w.heap.size w).alloc (Nat.le_refl _) (.cells #[c0, c1, c2, c3, c4] 27)
  have n1 := heap_alloc_new w (.cells #[c0, c1, c2, c3, c4] 27)
  have z1 : (w.alloc (.cells #[c0, c1, c2, c3, c4] 27)).heap.size = w.heap.size + 1 := by simp
  obtain ⟨W1, hW1⟩ : ∃ W1, w.alloc (.cells #[c0, c1, c2, c3, c4] 27) = W1 := ⟨_, rfl⟩
  rw [hW1] at a1 n1 z1
  have a2 := (Below.refl W1.heap.size W1).alloc (Nat.le_refl _) (.cells #[.int .i64 0, .int .i64 0, .slice none 0 0, .slice none 0 0, .slice none 0 0] 27)
  have n2 := heap_alloc_new W1 (.cells #[.int .i64 0, .int .i64 0, .slice none 0 0, .slice none 0 0, .slice none 0 0] 27)
  have z2 : (W1.alloc (.cells #[.int .i64 0, .int .i64 0, .slice none 0 0, .slice none 0 0, .slice none 0 0] 27)).heap.size = w.heap.size + 2 := by simp; omega
  obtain ⟨W2, hW2⟩ : ∃ W2, W1.alloc (.cells #[.int .i64 0, .int .i64 0, .slice none 0 0, .slice none 0 0, .slice none 0 0] 27) = W2 := ⟨_, rfl⟩
  rw [hW2] at a2 n2 z2
  rw [z1] at n2
  have e1 := (a2.block w.heap.size (by omega)).trans n1
  have lo := a1.trans (a2.mono (by omega))
  have k0 : W2.cell? ⟨w.heap.size, 0, none⟩ = some c0 := cell_of_row _ _ 0 _ _ (0, 0) e1
  have k1 : W2.cell? ⟨w.heap.size, 1, none⟩ = some c1 := cell_of_row _ _ 1 _ _ (0, 0) e1
  have k2 : W2.cell? ⟨w.heap.size, 2, none⟩ = some c2 := cell_of_row _ _ 2 _ _ (0, 0) e1
  have k3 : W2.cell? ⟨w.heap.size, 3, none⟩ = some c3 := cell_of_row _ _ 3 _ _ (0, 0) e1
  have k4 : W2.cell? ⟨w.heap.size, 4, none⟩ = some c4 := cell_of_row _ _ 4 _ _ (0, 0) e1
  have HN2 := Lib.hid n2
  have HLO := Lib.hid lo
  have HZ2 := Lib.hid z2
  have HZ1 := Lib.hid z1
  have HW1 := Lib.hid hW1
  have HW2 := Lib.hid hW2
  have HU := Lib.hid (hu W2)
  have HV := Lib.hid hv
  have HS := Lib.hid hS
  have HWD := Lib.hid hW
  have HKK := Lib.hid hK
  obtain ⟨N, hN⟩ : ∃ N, E.len = N := ⟨_, rfl⟩
  rw [hN] at HU hlen
  have HN := Lib.hid hN
  clear a1 a2 n1 n2 z1 z2 e1 lo hW1 hW2 hx hS hW hK hu hv hg hE hN
  have hfd : ∀ (v0 v1 v2 v3 v4 : Value) (Wx : World), (Instr.field 27 (.agg #[v0, v1, v2, v3, v4]) 4).run Try.prog Wx = .ok v4 Wx := fun _ _ _ _ _ _ => by kernel_rfl
  go_enter Try.func35, Try.ntmps35
  go_upto_region 1 with fail
  rw [HW1.out, HW2.out]
  go_wp2_with (go_at_call 56; (with_reducible refine HU.out.mono ?_); (rintro r w3 ⟨⟨k0', n0', A20, m20, c20, A30, m30, c30, rfl⟩, hb3⟩); have HB3 := Lib.hid (HLO.out.trans (hb3.mono HLO.out.size)); have HN3 := Lib.hid (blk_keep9 hb3 HN2.out); clear hb3 HU k0 k1 k2 k3 k4)
  go_loopw [11] (fun iv wr => ∃ i : Nat, i ≤ N ∧ iv = .int .i64 i ∧ Hid (Below w.heap.size w wr) ∧ Hid (wr.heap[w.heap.size + 1]? = some (.cells #[.int .i64 0, .int .i64 0, .slice none 0 0, .slice none 0 0, .slice none 0 0] 27 (0, 0))) ∧ Hid (∀ j t y, j < i → E.get? j = some (t, y) → t ≠ key)) (fun iv _ => N - (intOf iv).toNat)
  case atStart => exact ⟨0, Nat.zero_le _, rfl, HB3, HN3, Lib.hid (fun j t y h => by omega)⟩
  case round =>
    clear HB3 HN3
    obtain ⟨i, hi, rfl, HB3, HN3, HNO⟩ := hrel
    by_cases hlt : i < N
    · have hlz : (i : Int) < (N : Int) := by omega
      obtain ⟨sy, y, hy⟩ := E.get_some i (by rw [HN.out]; exact hlt)
      obtain ⟨g, o, eA, hg, hobs⟩ := HV.out.2 (by rw [HN.out]; omega)
      subst eA
      obtain ⟨d0, d1, d2, d3, d4, ks, q0, q1, q2, q3, q4, hyr⟩ := hobs.get E g o i sy y hy
      have hgw : g < w.heap.size := HS.out g hg
      obtain ⟨k9, n9, A29, m29, c29, A39, m39, c39, A49, m49, c49, rfl, rfl, rfl, rfl, rfl⟩ := hyr.form
      have e := fun j => World.cell?_of_block (a := ⟨g, j, none⟩) (HB3.out.block g hgw)
      have x0 := (e _).trans ks
      have x1 := (e _).trans q0
      have x2 := (e _).trans q1
      have x3 := (e _).trans q2
      have x4 := (e _).trans q3
      have x5 := (e _).trans q4
      have HY := Lib.hid hy
      have HYR := Lib.hid hyr
      have hb4 := (Below.refl wr.heap.size wr).alloc (Nat.le_refl _) (.cells #[.string sy, .int .i64 k9, .int .i64 n9, .slice A29 m29 c29, .slice A39 m39 c39, .slice A49 m49 c49] 32)
      have hn4 := heap_alloc_new wr (.cells #[.string sy, .int .i64 k9, .int .i64 n9, .slice A29 m29 c29, .slice A39 m39 c39, .slice A49 m49 c49] 32)
      obtain ⟨W4, hW4⟩ : ∃ W4, wr.alloc (.cells #[.string sy, .int .i64 k9, .int .i64 n9, .slice A29 m29 c29, .slice A39 m39 c39, .slice A49 m49 c49] 32) = W4 := ⟨_, rfl⟩
      rw [hW4] at hb4 hn4
      have HB4 := Lib.hid (HB3.out.trans (hb4.mono HB3.out.size))
      have HN4 := Lib.hid (blk_keep9 hb4 HN3.out)
      have HM4 := Lib.hid hn4
      have HW4 := Lib.hid hW4
      clear hy hobs hg hgw ks q0 q1 q2 q3 q4 hyr e hb4 hn4 hW4
      go_upto_region 4 with fail
      rw [HW4.out]
      clear x0 x1 x2 x3 x4 x5
      have y0 : W4.cell? ⟨wr.heap.size, 0, none⟩ = some (.string sy) := cell_of_row _ _ 0 _ _ (0, 0) HM4.out
      have y1 : W4.cell? ⟨wr.heap.size, 1, none⟩ = some (.int .i64 k9) := cell_of_row _ _ 1 _ _ (0, 0) HM4.out
      have y2 : W4.cell? ⟨wr.heap.size, 2, none⟩ = some (.int .i64 n9) := cell_of_row _ _ 2 _ _ (0, 0) HM4.out
      have y3 : W4.cell? ⟨wr.heap.size, 3, none⟩ = some (.slice A29 m29 c29) := cell_of_row _ _ 3 _ _ (0, 0) HM4.out
      have y4 : W4.cell? ⟨wr.heap.size, 4, none⟩ = some (.slice A39 m39 c39) := cell_of_row _ _ 4 _ _ (0, 0) HM4.out
      have y5 : W4.cell? ⟨wr.heap.size, 5, none⟩ = some (.slice A49 m49 c49) := cell_of_row _ _ 5 _ _ (0, 0) HM4.out
      by_cases hk : sy = key
      · have hbe : (sy.toList == key.toList) = true := by rw [hk]; simp
        have hlk := lk_get E i sy y HY.out (fun j t z hj hz => by rw [hk]; exact HNO.out j t z hj hz)
        rw [hk] at hlk
        have HLK := Lib.hid hlk
        have HCP := Lib.hid (pCopyC 1000000000 W y (wdE_get W E i sy y HWD.out HY.out) (Nat.le_trans (Nat.mul_le_mul_left W (htE_get E i sy y HY.out)) HKK.out) (Nat.le_refl _) S W4 _ _ _ _ _ (ObR.keep (fun b hb => HB4.out.block b (HS.out b hb)) (fun _ h => h) y HYR.out) (fun b hb => Nat.lt_of_lt_of_le (HS.out b hb) HB4.out.size))
        clear hlk hk
        go_wp2_with (go_at_call 21; (with_reducible refine HCP.out.mono ?_); (rintro r w5 ⟨d0, d1, d2, d3, d4, rfl, hx5, hb5⟩); (obtain ⟨l9, p9, B29, s29, t29, B39, s39, t39, B49, s49, t49, rfl, rfl, rfl, rfl, rfl⟩ := hx5.form); have HX5 := Lib.hid hx5; have HN5 := Lib.hid (blk_keep9 hb5 HN4.out); have HB5 := Lib.hid (HB4.out.trans (hb5.mono HB4.out.size)); (obtain ⟨r0, r1, r2, r3, r4, r5⟩ := zero_cells HN5.out); clear hx5 hb5 HCP y0 y1 y2 y3 y4 y5)
        refine bodyPost_ret (results_cell_row rfl _ _ (w.heap.size + 1) 27 _ (0, 0) _ rfl (set5_row HN5.out) Try.underlying27 rfl (by kernel_rfl)) rfl ?_
        have hlt9 := row_lt _ _ _ HN4.out
        rw [HLK.out]
        exact ⟨_, _, _, _, _, rfl, ObR.keep (fun b hb => heap_set5 (by have := hb.1; omega)) (fun b hb => ⟨by have := hb.1; have := HB4.out.size; omega, by rw [size_set5]; exact hb.2⟩) _ HX5.out, below_set5 HB5.out (Nat.le_succ _)⟩
      · have hbe : (sy.toList == key.toList) = false := str_ne (fun e => hk e)
        have HNO2 : Hid (∀ j t z, j < i + 1 → E.get? j = some (t, z) → t ≠ key) := Lib.hid (fun j t z hj hz => by
          by_cases hji : j < i
          · exact HNO.out j t z hji hz
          · obtain rfl : j = i := by omega
            rw [HY.out] at hz
            injection hz with hz
            injection hz with hz1 hz2
            rw [← hz1]; exact hk)
        clear hk
        go_wp2_with fail
        go_roundw
        case rel => exact ⟨i + 1, by omega, by go_num, HB4, HN4, HNO2⟩
        case measure => simp [intOf]; omega
    · obtain rfl : N = i := by omega
      have hlk := lk_no E key (fun j t z hz => by
        have hj : j < N := by
          rcases Nat.lt_or_ge j N with h | h
          · exact h
          · exfalso
            rw [Ens.get_none E j (by rw [HN.out]; exact h)] at hz
            cases hz
        exact HNO.out j t z hj hz)
      have HLK := Lib.hid hlk
      clear hlk
      obtain ⟨r0, r1, r2, r3, r4, r5⟩ := zero_cells HN3.out
      go_wp2_with (go_at_call 37; refine (pNone0 _).mono ?_; (rintro r w5 ⟨rfl, hb5⟩); have HN5 := Lib.hid (blk_keep9 hb5 HN3.out); have HB5 := Lib.hid (HB3.out.trans (hb5.mono HB3.out.size)); clear r0 r1 r2 r3 r4 r5; (obtain ⟨r0, r1, r2, r3, r4, r5⟩ := zero_cells HN5.out); clear hb5)
      refine bodyPost_ret (results_cell_row rfl _ _ (w.heap.size + 1) 27 _ (0, 0) _ rfl (set5_row HN5.out) Try.underlying27 rfl (by kernel_rfl)) rfl ?_
      rw [HLK.out]
      exact ⟨_, _, _, _, _, rfl, ObR.plain (by omega) (by omega) (bytS_nil _ _), below_set5 HB5.out (Nat.le_succ _)⟩
end

section
open Go.RowKit
set_option linter.unusedVariables false
set_option maxRecDepth 100000
theorem Obs.nil_of {l : Obs} (h : l.len = 0) : l = .nil := by
  cases l with
  | nil => rfl
  | cons x xs => simp [Obs.len] at h
theorem Ens.nil_of {l : Ens} (h : l.len = 0) : l = .nil := by
  cases l with
  | nil => rfl
  | cons s x xs => simp [Ens.len] at h
theorem may_parts {k n : Int} {b : List Int} {l : Obs} {d : Ens} {e : Int} (h : mayO (.mk k n b l d) e = true) : (0 ≤ k ∧ k ≤ 9) ∧ (l = .nil ∨ mayL l e = true) ∧ (d = .nil ∨ mayE d none e = true) ∧ (l = .nil ∨ d = .nil) := by
  rw [mayO] at h
  by_cases hb : badF k b.length l.len d.len = true
  · rw [if_pos hb] at h; cases h
  rw [if_neg hb] at h
  have hl : l = .nil ∨ k = 6 := by
    rcases Nat.eq_zero_or_pos l.len with h0 | h0
    · exact .inl (Obs.nil_of h0)
    · refine .inr (Classical.byContradiction fun hk => hb ?_)
      unfold badF; exact decide_eq_true (.inl ⟨h0, hk⟩)
  have hd : d = .nil ∨ k = 7 ∨ k = 8 := by
    rcases Nat.eq_zero_or_pos d.len with h0 | h0
    · exact .inl (Ens.nil_of h0)
    · refine .inr (Classical.byContradiction fun hk => hb ?_)
      unfold badF; exact decide_eq_true (.inr (.inl ⟨h0, fun e => hk (.inl e), fun e => hk (.inr e)⟩))
  by_cases h6 : k = 6
  · subst h6
    have hd : d = .nil := by rcases hd with h | h | h; exact h; omega; omega
    by_cases hn : n = 0
    · simp [hn] at h
      exact ⟨by omega, .inr h.1, .inl hd, .inr hd⟩
    · simp [hn] at h
  · have hl : l = .nil := hl.resolve_right h6
    by_cases h78 : k = 7 ∨ k = 8
    · have h1 : ¬ k = 1 := by omega
      have h2 : ¬ k = 2 := by omega
      have h3 : ¬ k = 3 := by omega
      have h9 : ¬ k = 9 := by omega
      have h0 : ¬ k = 0 := by omega
      have h4 : ¬ k = 4 := by omega
      have h5 : ¬ k = 5 := by omega
      rw [if_neg h1, if_neg h2, if_neg h3, if_neg h9] at h
      by_cases hn : n ≠ 0
      · rw [if_pos hn] at h; cases h
      rw [if_neg hn, if_neg h0, if_neg h4, if_neg h5, if_neg h6, if_pos h78] at h
      by_cases hx : e < 1 ∨ 16777216 < b.length
      · rw [if_pos hx] at h; cases h
      rw [if_neg hx] at h
      exact ⟨by omega, .inl hl, .inr h, .inl hl⟩
    · have hd : d = .nil := by rcases hd with h | h; exact h; exact absurd h h78
      refine ⟨?_, .inl hl, .inl hd, .inl hl⟩
      by_cases h1 : k = 1
      · omega
      by_cases h2 : k = 2
      · omega
      by_cases h3 : k = 3
      · omega
      by_cases h9 : k = 9
      · omega
      by_cases h0 : k = 0
      · omega
      by_cases h4 : k = 4
      · omega
      by_cases h5 : k = 5
      · omega
      rw [if_neg h1, if_neg h2, if_neg h3, if_neg h9] at h
      by_cases hn : n ≠ 0
      · rw [if_pos hn] at h; cases h
      rw [if_neg hn, if_neg h0, if_neg h4, if_neg h5, if_neg h6, if_neg h78] at h
      cases h
theorem may_kind {x : Ob} {e : Int} (h : mayO x e = true) : 0 ≤ x.kind ∧ x.kind ≤ 9 := by
  obtain ⟨k, n, b, l, d⟩ := x
  exact (may_parts h).1
end

section
open Go.RowKit Go.Sort
set_option linter.unusedVariables false
set_option maxRecDepth 100000
theorem Ens.get_in : ∀ (l : Ens) (i : Nat) (s : ByteArray) (x : Ob), l.get? i = some (s, x) → (s, x) ∈ l.toL
  | .nil, i, s, x, h => by simp [Ens.get?] at h
  | .cons t y ys, 0, s, x, h => by simp [Ens.get?] at h; obtain ⟨rfl, rfl⟩ := h; rw [Ens.toL]; exact List.mem_cons_self
  | .cons t y ys, i + 1, s, x, h => by rw [Ens.toL]; exact List.mem_cons_of_mem _ (Ens.get_in ys i s x (by simpa [Ens.get?] using h))
theorem ss_next : ∀ (l : Ens) (i : Nat) (s t : ByteArray) (x y : Ob), SS l.toL → l.get? i = some (s, x) → l.get? (i + 1) = some (t, y) → ltS s t = true
  | .nil, i, s, t, x, y, _, h, _ => by simp [Ens.get?] at h
  | .cons r z zs, 0, s, t, x, y, hs, h, h2 => by
    simp [Ens.get?] at h; obtain ⟨rfl, rfl⟩ := h
    rw [Ens.toL, SS.cons] at hs
    exact hs.1 _ (Ens.get_in zs 0 t y (by simpa [Ens.get?] using h2))
  | .cons r z zs, i + 1, s, t, x, y, hs, h, h2 => by
    rw [Ens.toL, SS.cons] at hs
    exact ss_next zs i s t x y hs.2 (by simpa [Ens.get?] using h) (by simpa [Ens.get?] using h2)
theorem mayE_ss : ∀ (d : Ens) (pv : Option ByteArray) (e : Int), mayE d pv e = true → SS d.toL ∧ ∀ p, pv = some p → ∀ q ∈ d.toL, ltS p q.1 = true
  | .nil, pv, e, _ => by rw [Ens.toL]; exact ⟨List.Pairwise.nil, fun p hp q hq => by cases hq⟩
  | .cons s x xs, pv, e, h => by
    rw [mayE] at h
    by_cases h1 : nameS s = true ∧ (∀ p, pv = some p → leS s p = false) ∧ x.kind ≠ 8 ∧ x.kind ≠ 0 ∧ mayO x (e - 1) = true
    · rw [if_pos h1] at h
      obtain ⟨a, b⟩ := mayE_ss xs (some s) e h
      rw [Ens.toL, SS.cons]
      refine ⟨⟨fun q hq => b s rfl q hq, a⟩, fun p hp q hq => ?_⟩
      have hps : ltS p s = true := leS_no (by rw [h1.2.1 p hp]; simp)
      rcases List.mem_cons.1 hq with rfl | hq
      · exact hps
      · exact ltS_trans hps (b s rfl q hq)
    · rw [if_neg h1] at h; cases h
set_option maxHeartbeats 4000000 in
theorem riseC (l : Ens) (S : Nat → Prop) (w : World) (A : Option Addr) (c : Nat) (hl : EnsV w S l A c) (hS : ∀ g, S g → g < w.heap.size) (hs : SS l.toL) :
    Calls Try.prog 84 #[.slice A l.len c] w fun r w' => r = .returned (.bool true) ∧ Below w.heap.size w w' := by
  have HL := Lib.hid hl
  have HS := Lib.hid hS
  have HSS := Lib.hid hs
  obtain ⟨LL, hLL⟩ : ∃ LL, l.len = LL := ⟨_, rfl⟩
  have HLL := Lib.hid hLL
  have hmx : LL ≤ 9223372036854775807 := by rw [← hLL]; have := hl.1; omega
  rw [hLL]
  clear hl hS hs hLL
  go_enter Try.func84, Try.ntmps84
  go_wp2_with fail
  go_loopw [3] (fun iv wr => ∃ (i : Nat), 1 ≤ i ∧ (i ≤ LL ∨ i = 1) ∧ iv = .int .i64 i ∧ Hid (Below w.heap.size w wr)) (fun iv _ => LL - (intOf iv).toNat)
  case atStart => exact ⟨1, Nat.le_refl _, .inr rfl, rfl, Lib.hid (Below.refl _ _)⟩
  case round =>
    obtain ⟨i, h1, hi, rfl, HBE⟩ := hrel
    by_cases hlt : i < LL
    · obtain ⟨j, rfl⟩ : ∃ j, i = j + 1 := ⟨i - 1, by omega⟩
      obtain ⟨s, x, hx⟩ := l.get_some j (by rw [HLL.out]; omega)
      obtain ⟨t, y, hy⟩ := l.get_some (j + 1) (by rw [HLL.out]; omega)
      obtain ⟨g, o, rfl, hg, hobs⟩ := HL.out.2 (by rw [HLL.out]; omega)
      obtain ⟨_, _, _, _, _, ks, _⟩ := hobs.get l g o j s x hx
      obtain ⟨_, _, _, _, _, kt, _⟩ := hobs.get l g o (j + 1) t y hy
      have HK : Hid (∀ W, Below w.heap.size w W → W.cell? ⟨g, o + j * 6, none⟩ = some (.string s) ∧ W.cell? ⟨g, o + (j + 1) * 6, none⟩ = some (.string t)) := Lib.hid (fun W hW => by
        have e := fun j => World.cell?_of_block (a := ⟨g, j, none⟩) (hW.block g (HS.out g hg))
        exact ⟨(e _).trans ks, (e _).trans kt⟩)
      have hbl : Op.bytesLess s.toList t.toList = true := ss_next l j s t x y HSS.out hx hy
      obtain ⟨i2, hi2⟩ : ∃ i2, j + 1 = i2 := ⟨_, rfl⟩
      rw [hi2] at hlt HK h1 hi ⊢
      have hli : (i2 : Int) < LL := by omega
      have hij : (i2 : Int) - 1 = j := by omega
      have hwj : IntKind.i64.wrap ((i2 : Int) - 1) = j := by rw [hij]; exact IntWalk.i64_in _ (by omega)
      have w2 : IntKind.i64.wrap (j : Int) = j := IntWalk.i64_in _ (by omega)
      have hjb : (0 ≤ (j : Int) ∧ (j : Int) < (LL : Int)) = True := eq_true ⟨by omega, by omega⟩
      have hjc : (0 ≤ (i2 : Int) ∧ (i2 : Int) < (LL : Int)) = True := eq_true ⟨by omega, by omega⟩
      have hjn : (j < LL) = True := eq_true (by omega)
      have hjm : (i2 < LL) = True := eq_true hlt
      have HBD := Lib.hid HBE.out.drew
      clear hobs hg hx hy ks kt
      go_upto_region 4 with fail
      refine wp_region_heldR (fun W => W.cell? ⟨g, o + j * 6, none⟩ = some (.string s) ∧ W.cell? ⟨g, o + i2 * 6, none⟩ = some (.string t)) 1000 (by kernel_rfl) (HK.out _ HBD.out) (fun hHeld => ?_)
      refine wpAnyR_take 0 rfl (by kernel_rfl) (by kernel_rfl) (by kernel_rfl) (by kernel_rfl) (fun _ _ _ h => h) (by rfl) (v := ?_) ?_ (by assumption) ?_
      rotate_left
      focus
        intro wS hSw
        (try dsimp only at hSw)
        go_simp
        (try simp only [hwj])
        (try simp only [w2, hjb, if_true, Int.toNat_natCast])
        (try simp only [hjc, if_true, Int.toNat_natCast])
        (try simp only [hjn, if_true])
        (try simp only [hjm, if_true])
        (try simp only [hbl, Bool.not_true])
        try with_reducible rfl
      intro hHeld
      try simp only [Act.put, List.setIfInBounds_toArray, List.set_cons_zero, List.set_cons_succ]
      refine wpAnyR_take 1 rfl (by kernel_rfl) (by kernel_rfl) (by kernel_rfl) (by kernel_rfl) (fun _ _ _ h => h) (by rfl) (v := ?_) ?_ (by assumption) ?_
      rotate_left
      focus
        intro wS hSw
        (try dsimp only at hSw)
        go_simp
        (try simp only [hwj])
        (try simp only [w2, hjb, if_true, Int.toNat_natCast])
        (try simp only [hjc, if_true, Int.toNat_natCast])
        (try simp only [hjn, if_true])
        (try simp only [hjm, if_true])
        (try simp only [hbl, Bool.not_true])
        try with_reducible rfl
      intro hHeld
      try simp only [Act.put, List.setIfInBounds_toArray, List.set_cons_zero, List.set_cons_succ]
      refine wpAnyR_take 2 rfl (by kernel_rfl) (by kernel_rfl) (by kernel_rfl) (by kernel_rfl) (fun _ _ _ h => h) (by rfl) (v := ?_) ?_ (by assumption) ?_
      rotate_left
      focus
        intro wS hSw
        (try dsimp only at hSw)
        go_simp
        (try simp only [hwj])
        (try simp only [w2, hjb, if_true, Int.toNat_natCast])
        (try simp only [hjc, if_true, Int.toNat_natCast])
        (try simp only [hjn, if_true])
        (try simp only [hjm, if_true])
        (try simp only [hbl, Bool.not_true])
        try with_reducible rfl
      intro hHeld
      try simp only [Act.put, List.setIfInBounds_toArray, List.set_cons_zero, List.set_cons_succ]
      refine wpAnyR_take 3 rfl (by kernel_rfl) (by kernel_rfl) (by kernel_rfl) (by kernel_rfl) (fun _ _ _ h => h) (by rfl) (v := ?_) ?_ (by assumption) ?_
      rotate_left
      focus
        intro wS hSw
        (try dsimp only at hSw)
        go_simp
        (try simp only [hwj])
        (try simp only [w2, hjb, if_true, Int.toNat_natCast])
        (try simp only [hjc, if_true, Int.toNat_natCast])
        (try simp only [hjn, if_true])
        (try simp only [hjm, if_true])
        (try simp only [hbl, Bool.not_true])
        try with_reducible rfl
      intro hHeld
      try simp only [Act.put, List.setIfInBounds_toArray, List.set_cons_zero, List.set_cons_succ]
      refine wpAnyR_take 4 rfl (by kernel_rfl) (by kernel_rfl) (by kernel_rfl) (by kernel_rfl) (fun _ _ _ h => h) (by rfl) (v := ?_) ?_ (by assumption) ?_
      rotate_left
      focus
        intro wS hSw
        (try dsimp only at hSw)
        go_simp
        (try simp only [hwj])
        (try simp only [w2, hjb, if_true, Int.toNat_natCast])
        (try simp only [hjc, if_true, Int.toNat_natCast])
        (try simp only [hjn, if_true])
        (try simp only [hjm, if_true])
        (try simp only [hbl, Bool.not_true])
        try with_reducible rfl
      intro hHeld
      try simp only [Act.put, List.setIfInBounds_toArray, List.set_cons_zero, List.set_cons_succ]
      refine wpAnyR_take 5 rfl (by kernel_rfl) (by kernel_rfl) (by kernel_rfl) (by kernel_rfl) (fun _ _ _ h => h) (by rfl) (v := ?_) ?_ (by assumption) ?_
      rotate_left
      focus
        intro wS hSw
        (try dsimp only at hSw)
        go_simp
        (try simp only [hwj])
        (try simp only [w2, hjb, if_true, Int.toNat_natCast])
        (try simp only [hjc, if_true, Int.toNat_natCast])
        (try simp only [hjn, if_true])
        (try simp only [hjm, if_true])
        (try simp only [hbl, Bool.not_true])
        try with_reducible rfl
      intro hHeld
      try simp only [Act.put, List.setIfInBounds_toArray, List.set_cons_zero, List.set_cons_succ]
      refine wpAnyR_take 6 rfl (by kernel_rfl) (by kernel_rfl) (by kernel_rfl) (by kernel_rfl) (fun _ _ _ h => h) (by rfl) (v := ?_) ?_ (by assumption) ?_
      rotate_left
      focus
        intro wS hSw
        (try dsimp only at hSw)
        go_simp
        (try simp only [hwj])
        (try simp only [w2, hjb, if_true, Int.toNat_natCast])
        (try simp only [hjc, if_true, Int.toNat_natCast])
        (try simp only [hjn, if_true])
        (try simp only [hjm, if_true])
        (try simp only [hbl, Bool.not_true])
        try with_reducible rfl
      intro hHeld
      try simp only [Act.put, List.setIfInBounds_toArray, List.set_cons_zero, List.set_cons_succ]
      refine wpAnyR_take 7 rfl (by kernel_rfl) (by kernel_rfl) (by kernel_rfl) (by kernel_rfl) (fun _ _ _ h => h) (by rfl) (v := ?_) ?_ (by assumption) ?_
      rotate_left
      focus
        intro wS hSw
        (try dsimp only at hSw)
        go_simp
        (try simp only [hwj])
        (try simp only [w2, hjb, if_true, Int.toNat_natCast])
        (try simp only [hjc, if_true, Int.toNat_natCast])
        (try simp only [hjn, if_true])
        (try simp only [hjm, if_true])
        (try simp only [hbl, Bool.not_true])
        try with_reducible rfl
      intro hHeld
      try simp only [Act.put, List.setIfInBounds_toArray, List.set_cons_zero, List.set_cons_succ]
      refine wpAnyR_take 8 rfl (by kernel_rfl) (by kernel_rfl) (by kernel_rfl) (by kernel_rfl) (fun _ _ _ h => h) (by rfl) (v := ?_) ?_ (by assumption) ?_
      rotate_left
      focus
        intro wS hSw
        (try dsimp only at hSw)
        go_simp
        (try simp only [hwj])
        (try simp only [w2, hjb, if_true, Int.toNat_natCast])
        (try simp only [hjc, if_true, Int.toNat_natCast])
        (try simp only [hjn, if_true])
        (try simp only [hjm, if_true])
        (try simp only [hbl, Bool.not_true])
        try with_reducible rfl
      intro hHeld
      try simp only [Act.put, List.setIfInBounds_toArray, List.set_cons_zero, List.set_cons_succ]
      refine wpAnyR_take 9 rfl (by kernel_rfl) (by kernel_rfl) (by kernel_rfl) (by kernel_rfl) (fun _ _ _ h => h) (by rfl) (v := ?_) ?_ (by assumption) ?_
      rotate_left
      focus
        intro wS hSw
        (try dsimp only at hSw)
        go_simp
        (try simp only [hwj])
        (try simp only [w2, hjb, if_true, Int.toNat_natCast])
        (try simp only [hjc, if_true, Int.toNat_natCast])
        (try simp only [hjn, if_true])
        (try simp only [hjm, if_true])
        (try simp only [hbl, Bool.not_true])
        try with_reducible rfl
      intro hHeld
      try simp only [Act.put, List.setIfInBounds_toArray, List.set_cons_zero, List.set_cons_succ]
      refine wpAnyR_take 10 rfl (by kernel_rfl) (by kernel_rfl) (by kernel_rfl) (by kernel_rfl) (fun _ _ _ h => h) (by rfl) (v := ?_) ?_ (by assumption) ?_
      rotate_left
      focus
        intro wS hSw
        (try dsimp only at hSw)
        go_simp
        (try simp only [hwj])
        (try simp only [w2, hjb, if_true, Int.toNat_natCast])
        (try simp only [hjc, if_true, Int.toNat_natCast])
        (try simp only [hjn, if_true])
        (try simp only [hjm, if_true])
        (try simp only [hbl, Bool.not_true])
        try with_reducible rfl
      intro hHeld
      try simp only [Act.put, List.setIfInBounds_toArray, List.set_cons_zero, List.set_cons_succ]
      refine wpAnyR_take 11 rfl (by kernel_rfl) (by kernel_rfl) (by kernel_rfl) (by kernel_rfl) (fun _ _ _ h => h) (by rfl) (v := ?_) ?_ (by assumption) ?_
      rotate_left
      focus
        intro wS hSw
        (try dsimp only at hSw)
        go_simp
        (try simp only [hwj])
        (try simp only [w2, hjb, if_true, Int.toNat_natCast])
        (try simp only [hjc, if_true, Int.toNat_natCast])
        (try simp only [hjn, if_true])
        (try simp only [hjm, if_true])
        (try simp only [hbl, Bool.not_true])
        try with_reducible rfl
      intro hHeld
      try simp only [Act.put, List.setIfInBounds_toArray, List.set_cons_zero, List.set_cons_succ]
      refine wpAnyR_done (by kernel_rfl) ?_
      refine NoPanic.normal ?_
      go_wp2_with fail
      go_roundw
      case rel => exact ⟨i2 + 1, by omega, .inl (by omega), by go_num, HBD⟩
      case measure => simp [intOf]; omega
    · have hli : ¬ (i : Int) < LL := by omega
      go_wp2_with fail
      go_ret
      exact ⟨rfl, HBE.out⟩
theorem firstsC (l : Ens) (S : Nat → Prop) (w : World) (A : Option Addr) (c : Nat) (hl : EnsV w S l A c) (hS : ∀ g, S g → g < w.heap.size) (hs : SS l.toL) :
    Calls Try.prog 68 #[.slice A l.len c] w fun r w' => r = .returned (.slice A l.len c) ∧ Below w.heap.size w w' := by
  have HR := Lib.hid (riseC l S w A c hl hS hs)
  obtain ⟨LL, hLL⟩ : ∃ LL, l.len = LL := ⟨_, rfl⟩
  rw [hLL] at HR ⊢
  clear hl hS hs hLL
  go_enter Try.func68, Try.ntmps68
  go_wp2_with (go_at_call 84; refine HR.out.mono ?_; (rintro r w3 ⟨rfl, hb3⟩))
  go_ret
  exact ⟨rfl, hb3⟩
theorem may_fields {k n : Int} {b : List Int} {l : Obs} {d : Ens} {e : Int} (h : mayO (.mk k n b l d) e = true) : (b = [] ∨ k = 4 ∨ k = 5 ∨ k = 8) ∧ (l = .nil ∨ k = 6) ∧ (d = .nil ∨ k = 7 ∨ k = 8) ∧ (n = 0 ∨ k = 1 ∨ k = 2 ∨ k = 3 ∨ k = 9) := by
  rw [mayO] at h
  by_cases hb : badF k b.length l.len d.len = true
  · rw [if_pos hb] at h; cases h
  rw [if_neg hb] at h
  refine ⟨?_, ?_, ?_, ?_⟩
  · rcases Nat.eq_zero_or_pos b.length with h0 | h0
    · exact .inl (List.eq_nil_of_length_eq_zero h0)
    · refine .inr (Classical.byContradiction fun hk => hb ?_)
      unfold badF; exact decide_eq_true (.inr (.inr ⟨h0, fun e => hk (.inl e), fun e => hk (.inr (.inl e)), fun e => hk (.inr (.inr e))⟩))
  · rcases Nat.eq_zero_or_pos l.len with h0 | h0
    · exact .inl (Obs.nil_of h0)
    · refine .inr (Classical.byContradiction fun hk => hb ?_)
      unfold badF; exact decide_eq_true (.inl ⟨h0, hk⟩)
  · rcases Nat.eq_zero_or_pos d.len with h0 | h0
    · exact .inl (Ens.nil_of h0)
    · refine .inr (Classical.byContradiction fun hk => hb ?_)
      unfold badF; exact decide_eq_true (.inr (.inl ⟨h0, fun e => hk (.inl e), fun e => hk (.inr e)⟩))
  · by_cases h1 : k = 1
    · exact .inr (.inl h1)
    by_cases h2 : k = 2
    · exact .inr (.inr (.inl h2))
    by_cases h3 : k = 3
    · exact .inr (.inr (.inr (.inl h3)))
    by_cases h9 : k = 9
    · exact .inr (.inr (.inr (.inr h9)))
    rw [if_neg h1, if_neg h2, if_neg h3, if_neg h9] at h
    by_cases hn : n = 0
    · exact .inl hn
    · rw [if_pos hn] at h; cases h
/- Each field is used by its kind, the entries rise. -/
mutual
def fitO : Ob → Prop
  | .mk k n b l d => ((b = [] ∨ k = 4 ∨ k = 5 ∨ k = 8) ∧ (l = .nil ∨ k = 6) ∧ (d = .nil ∨ k = 7 ∨ k = 8) ∧ (n = 0 ∨ k = 1 ∨ k = 2 ∨ k = 3 ∨ k = 9)) ∧ (0 ≤ k ∧ k ≤ 9) ∧ SS d.toL ∧ fitL l ∧ fitE d
def fitL : Obs → Prop
  | .nil => True
  | .cons x xs => fitO x ∧ fitL xs
def fitE : Ens → Prop
  | .nil => True
  | .cons _ x xs => fitO x ∧ fitE xs
end
/-- What used leaves of what fits is the same object. -/
theorem used_fit {w : World} {S : Nat → Prop} {x : Ob} {c0 c1 c2 c3 c4 : Value} (hx : ObR w S x c0 c1 c2 c3 c4) (hm : fitO x) : ∃ d0 d1 d2 d3 d4, ObR w S x d0 d1 d2 d3 d4 ∧ ∀ W, Calls Try.prog 56 #[.agg #[c0, c1, c2, c3, c4]] W fun r w' => r = .returned (.agg #[d0, d1, d2, d3, d4]) ∧ Below W.heap.size W w' := by
  obtain ⟨k, n, b, l, d⟩ := x
  unfold fitO at hm
  obtain ⟨⟨f1, f2, f3, f4⟩, hkk, -, -, -⟩ := hm
  unfold ObR at hx
  obtain ⟨rfl, rfl, hk, hn, ⟨A2, m2, c2, rfl, hB⟩, ⟨A3, c3, rfl, h3, hl⟩, ⟨A4, c4, rfl, h4, hd⟩⟩ := hx
  have hU := usedC k n A2 A3 A4 m2 c2 l.len c3 d.len c4
  have b0 : BytS w S none 0 0 [] := ⟨rfl, by omega, (fun z hz => by cases hz), fun h => absurd h (by omega)⟩
  have l0 : (0 < Obs.nil.len → ∃ g o, (none : Option Addr) = some ⟨g, o, none⟩ ∧ S g ∧ ObsR w S .nil g o) := fun h => absurd h (by simp [Obs.len])
  have d0 : (0 < Ens.nil.len → ∃ g o, (none : Option Addr) = some ⟨g, o, none⟩ ∧ S g ∧ EnsR w S .nil g o) := fun h => absurd h (by simp [Ens.len])
  have c0 : Obs.nil.len ≤ 0 ∧ (0 : Nat) ≤ 9223372036854775807 := by simp [Obs.len]
  have e0 : Ens.nil.len ≤ 0 ∧ (0 : Nat) ≤ 9223372036854775807 := by simp [Ens.len]
  have main : ∀ B2 q2 C2 A5 q5 C5 A6 q6 C6, usedV k n (.slice A2 m2 c2) (.slice A3 l.len c3) (.slice A4 d.len c4) = .agg #[.int .i64 k, .int .i64 n, .slice B2 q2 C2, .slice A5 q5 C5, .slice A6 q6 C6] → ObR w S (.mk k n b l d) (.int .i64 k) (.int .i64 n) (.slice B2 q2 C2) (.slice A5 q5 C5) (.slice A6 q6 C6) → ∃ d0 d1 d2 d3 d4, ObR w S (.mk k n b l d) d0 d1 d2 d3 d4 ∧ ∀ W, Calls Try.prog 56 #[.agg #[.int .i64 k, .int .i64 n, .slice A2 m2 c2, .slice A3 l.len c3, .slice A4 d.len c4]] W fun r w' => r = .returned (.agg #[d0, d1, d2, d3, d4]) ∧ Below W.heap.size W w' := by
    intro B2 q2 C2 A5 q5 C5 A6 q6 C6 hu ho
    refine ⟨_, _, _, _, _, ho, fun W => ?_⟩
    rw [← hu]
    exact hU W
  by_cases h1 : k = 1 ∨ k = 2 ∨ k = 3 ∨ k = 9
  · obtain rfl : b = [] := f1.resolve_right (by omega)
    obtain rfl : l = .nil := f2.resolve_right (by omega)
    obtain rfl : d = .nil := f3.resolve_right (by omega)
    refine main none 0 0 none 0 0 none 0 0 (by unfold usedV; rw [if_pos h1]) ?_
    unfold ObR
    exact ⟨rfl, rfl, hk, hn, ⟨_, _, _, rfl, b0⟩, ⟨_, _, rfl, c0, l0⟩, ⟨_, _, rfl, e0, d0⟩⟩
  by_cases h2 : k = 4 ∨ k = 5
  · obtain rfl : l = .nil := f2.resolve_right (by omega)
    obtain rfl : d = .nil := f3.resolve_right (by omega)
    obtain rfl : n = 0 := f4.resolve_right (by omega)
    refine main A2 m2 c2 none 0 0 none 0 0 (by unfold usedV; rw [if_neg h1, if_pos h2]) ?_
    unfold ObR
    exact ⟨rfl, rfl, hk, hn, ⟨_, _, _, rfl, hB⟩, ⟨_, _, rfl, c0, l0⟩, ⟨_, _, rfl, e0, d0⟩⟩
  by_cases h6 : k = 6
  · obtain rfl : b = [] := f1.resolve_right (by omega)
    obtain rfl : d = .nil := f3.resolve_right (by omega)
    obtain rfl : n = 0 := f4.resolve_right (by omega)
    refine main none 0 0 A3 l.len c3 none 0 0 (by unfold usedV; rw [if_neg h1, if_neg h2, if_pos h6]) ?_
    unfold ObR
    exact ⟨rfl, rfl, hk, hn, ⟨_, _, _, rfl, b0⟩, ⟨_, _, rfl, h3, hl⟩, ⟨_, _, rfl, e0, d0⟩⟩
  by_cases h7 : k = 7
  · obtain rfl : b = [] := f1.resolve_right (by omega)
    obtain rfl : l = .nil := f2.resolve_right (by omega)
    obtain rfl : n = 0 := f4.resolve_right (by omega)
    refine main none 0 0 none 0 0 A4 d.len c4 (by unfold usedV; rw [if_neg h1, if_neg h2, if_neg h6, if_pos h7]) ?_
    unfold ObR
    exact ⟨rfl, rfl, hk, hn, ⟨_, _, _, rfl, b0⟩, ⟨_, _, rfl, c0, l0⟩, ⟨_, _, rfl, h4, hd⟩⟩
  by_cases h8 : k = 8
  · obtain rfl : l = .nil := f2.resolve_right (by omega)
    obtain rfl : n = 0 := f4.resolve_right (by omega)
    refine main A2 m2 c2 none 0 0 A4 d.len c4 (by unfold usedV; rw [if_neg h1, if_neg h2, if_neg h6, if_neg h7, if_pos h8]) ?_
    unfold ObR
    exact ⟨rfl, rfl, hk, hn, ⟨_, _, _, rfl, hB⟩, ⟨_, _, rfl, c0, l0⟩, ⟨_, _, rfl, h4, hd⟩⟩
  · obtain rfl : b = [] := f1.resolve_right (by omega)
    obtain rfl : l = .nil := f2.resolve_right (by omega)
    obtain rfl : d = .nil := f3.resolve_right (by omega)
    obtain rfl : n = 0 := f4.resolve_right (by omega)
    obtain rfl : k = 0 := by omega
    refine main none 0 0 none 0 0 none 0 0 (by unfold usedV; rw [if_neg h1, if_neg h2, if_neg h6, if_neg h7, if_neg h8]) ?_
    unfold ObR
    exact ⟨rfl, rfl, hk, hn, ⟨_, _, _, rfl, b0⟩, ⟨_, _, rfl, c0, l0⟩, ⟨_, _, rfl, e0, d0⟩⟩
/-- The entries of what may be rise. -/
theorem may_ss {k n : Int} {b : List Int} {l : Obs} {d : Ens} {e : Int} (h : mayO (.mk k n b l d) e = true) : SS d.toL := by
  obtain ⟨_, _, p2, _⟩ := may_parts h
  rcases p2 with rfl | p2
  · exact List.Pairwise.nil
  · exact (mayE_ss d none e p2).1
mutual
theorem may_fit : ∀ (x : Ob) (e : Int), mayO x e = true → fitO x
  | .mk k n b l d, e, h => by
    obtain ⟨hk, p1, p2, _⟩ := may_parts h
    unfold fitO
    refine ⟨may_fields h, hk, may_ss h, ?_, ?_⟩
    · rcases p1 with rfl | p1
      · unfold fitL; trivial
      · exact mayL_fit l e p1
    · rcases p2 with rfl | p2
      · unfold fitE; trivial
      · exact mayE_fit d none e p2
theorem mayL_fit : ∀ (l : Obs) (e : Int), mayL l e = true → fitL l
  | .nil, e, h => by unfold fitL; trivial
  | .cons x xs, e, h => by
    rw [mayL] at h
    by_cases q1 : x.kind = 8 ∨ e < 1
    · rw [if_pos q1] at h; cases h
    rw [if_neg q1] at h
    by_cases r1 : mayO x (e - 1) = true
    · rw [if_pos r1] at h
      unfold fitL
      exact ⟨may_fit x _ r1, mayL_fit xs e h⟩
    · rw [if_neg r1] at h; cases h
theorem mayE_fit : ∀ (d : Ens) (pv : Option ByteArray) (e : Int), mayE d pv e = true → fitE d
  | .nil, pv, e, h => by unfold fitE; trivial
  | .cons s x xs, pv, e, h => by
    rw [mayE] at h
    split at h
    · rename_i q1
      unfold fitE
      exact ⟨may_fit x _ q1.2.2.2.2, mayE_fit xs (some s) e h⟩
    · cases h
end
end

section
open Go.RowKit Go.Sort
set_option linter.unusedVariables false
set_option maxRecDepth 100000
theorem row5_cells {W : World} {g : Nat} {z0 z1 z2 z3 z4 : Value} {T : TypeId} (hh : W.heap[g]? = some (.cells #[z0, z1, z2, z3, z4] T (0, 0))) :
    W.cell? ⟨g, 0, none⟩ = some z0 ∧ W.cell? ⟨g, 1, none⟩ = some z1 ∧ W.cell? ⟨g, 2, none⟩ = some z2 ∧ W.cell? ⟨g, 3, none⟩ = some z3 ∧ W.cell? ⟨g, 4, none⟩ = some z4 ∧ (∀ j, W.frozen? ⟨g, j, none⟩ = false) :=
  ⟨cell_of_row _ _ 0 _ _ (0, 0) hh, cell_of_row _ _ 1 _ _ (0, 0) hh, cell_of_row _ _ 2 _ _ (0, 0) hh, cell_of_row _ _ 3 _ _ (0, 0) hh, cell_of_row _ _ 4 _ _ (0, 0) hh, fun j => by simp [World.frozen?, hh]⟩
set_option maxHeartbeats 4000000 in
theorem countedC (x : Ob) (S : Nat → Prop) (w : World) (c0 c1 c2 c3 c4 : Value) (hx : ObR w S x c0 c1 c2 c3 c4) (hS : ∀ g, S g → g < w.heap.size) (hm : fitO x) :
    Calls Try.prog 42 #[.agg #[c0, c1, c2, c3, c4]] w fun r w' => ∃ d0 d1 d2 d3 d4, r = .returned (.agg #[d0, d1, d2, d3, d4]) ∧ ObR w' S x d0 d1 d2 d3 d4 ∧ Below w.heap.size w w' := by
  obtain ⟨d0, d1, d2, d3, d4, hd, hU⟩ := used_fit hx hm
  obtain ⟨k, n, b, l, d⟩ := x
  have hss : SS d.toL := by unfold fitO at hm; exact hm.2.2.1
  have hx2 := hx
  unfold ObR at hx2
  obtain ⟨rfl, rfl, -, -, ⟨A2, m2, c2, rfl, -⟩, ⟨A3, c3, rfl, -, -⟩, ⟨A4, c4, rfl, -, -⟩⟩ := hx2
  have hd2 := hd
  unfold ObR at hd2
  obtain ⟨rfl, rfl, -, -, ⟨B2, q2, C2, rfl, -⟩, ⟨B3, C3, rfl, -, -⟩, ⟨B4, C4, rfl, h4, h5⟩⟩ := hd2
  have hF := fun W (hW : Below w.heap.size w W) => firstsC d S W B4 C4 (EnsV.keep ⟨h4, h5⟩ (fun g hg => hW.block g (hS g hg)) (fun _ h => h)) (fun g hg => Nat.lt_of_lt_of_le (hS g hg) hW.size) hss
  have hR := fun W (hW : Below w.heap.size w W) => ObR.keep (S' := S) (fun g hg => hW.block g (hS g hg)) (fun _ h => h) _ hd
  obtain ⟨LL, hLL⟩ : ∃ LL, l.len = LL := ⟨_, rfl⟩
  obtain ⟨DD, hDD⟩ : ∃ DD, d.len = DD := ⟨_, rfl⟩
  rw [hLL, hDD] at hU ⊢
  simp only [hDD, hLL] at hF hR
  have HF := Lib.hid hF
  have HR := Lib.hid hR
  have HU := Lib.hid hU
  have hb2 := ((Below.refl w.heap.size w).alloc (Nat.le_refl _) (.cells #[.int .i64 k, .int .i64 n, .slice A2 m2 c2, .slice A3 LL c3, .slice A4 DD c4] 27)).alloc (by simp) (.cells #[.int .i64 0, .int .i64 0, .slice none 0 0, .slice none 0 0, .slice none 0 0] 27)
  have hn2 := heap_alloc2_new w (.cells #[.int .i64 k, .int .i64 n, .slice A2 m2 c2, .slice A3 LL c3, .slice A4 DD c4] 27) (.cells #[.int .i64 0, .int .i64 0, .slice none 0 0, .slice none 0 0, .slice none 0 0] 27)
  have hn1 : ((w.alloc (.cells #[.int .i64 k, .int .i64 n, .slice A2 m2 c2, .slice A3 LL c3, .slice A4 DD c4] 27)).alloc (.cells #[.int .i64 0, .int .i64 0, .slice none 0 0, .slice none 0 0, .slice none 0 0] 27)).heap[w.heap.size]? = some (.cells #[.int .i64 k, .int .i64 n, .slice A2 m2 c2, .slice A3 LL c3, .slice A4 DD c4] 27) := by
    rw [heap_alloc_old _ _ (by simp)]; exact heap_alloc_new w _
  have hsz : ((w.alloc (.cells #[.int .i64 k, .int .i64 n, .slice A2 m2 c2, .slice A3 LL c3, .slice A4 DD c4] 27)).alloc (.cells #[.int .i64 0, .int .i64 0, .slice none 0 0, .slice none 0 0, .slice none 0 0] 27)).heap.size = w.heap.size + 2 := by simp
  obtain ⟨W2, hW2⟩ : ∃ W2, (w.alloc (.cells #[.int .i64 k, .int .i64 n, .slice A2 m2 c2, .slice A3 LL c3, .slice A4 DD c4] 27)).alloc (.cells #[.int .i64 0, .int .i64 0, .slice none 0 0, .slice none 0 0, .slice none 0 0] 27) = W2 := ⟨_, rfl⟩
  rw [hW2] at hb2 hn2 hsz hn1
  have m0 : W2.cell? ⟨w.heap.size, 0, none⟩ = some (.int .i64 k) := cell_of_row _ _ 0 _ _ (0, 0) hn1
  have m1 : W2.cell? ⟨w.heap.size, 1, none⟩ = some (.int .i64 n) := cell_of_row _ _ 1 _ _ (0, 0) hn1
  have m2' : W2.cell? ⟨w.heap.size, 2, none⟩ = some (.slice A2 m2 c2) := cell_of_row _ _ 2 _ _ (0, 0) hn1
  have m3 : W2.cell? ⟨w.heap.size, 3, none⟩ = some (.slice A3 LL c3) := cell_of_row _ _ 3 _ _ (0, 0) hn1
  have m4 : W2.cell? ⟨w.heap.size, 4, none⟩ = some (.slice A4 DD c4) := cell_of_row _ _ 4 _ _ (0, 0) hn1
  have HB2 := Lib.hid hb2
  have HN2 := Lib.hid hn2
  have HN1 := Lib.hid hn1
  have HZ := Lib.hid hsz
  have HW2 := Lib.hid hW2
  clear hb2 hn2 hn1 hsz hW2 hF hR hU hx hd h4 h5 hS hm hss hLL hDD
  go_enter Try.func42, Try.ntmps42
  go_upto_region 1 with fail
  rw [HW2.out]
  go_upto_region 2 with (go_at_call 56; refine (HU.out _).mono ?_; (rintro r w3 ⟨rfl, hb3⟩); have HN31 := Lib.hid (blk_keep9 hb3 HN1.out); have HN32 := Lib.hid (blk_keep9 hb3 HN2.out); have HB3 := Lib.hid (HB2.out.trans (hb3.mono HB2.out.size)); have HZ3 := Lib.hid (Nat.le_trans (Nat.le_of_eq HZ.out.symm) hb3.size); (obtain ⟨r0, r1, r2, r3, r4, r5⟩ := row5_cells HN31.out); clear hb3)
  have hn4 := set5_row (x0 := .int .i64 k) (x1 := .int .i64 n) (x2 := .slice B2 q2 C2) (x3 := .slice B3 LL C3) (x4 := .slice B4 DD C4) HN31.out
  have ho4 := blk_set5 (g := w.heap.size) (x0 := .int .i64 k) (x1 := .int .i64 n) (x2 := .slice B2 q2 C2) (x3 := .slice B3 LL C3) (x4 := .slice B4 DD C4) HN32.out (by omega)
  have hb4 := below_set5 (x0 := .int .i64 k) (x1 := .int .i64 n) (x2 := .slice B2 q2 C2) (x3 := .slice B3 LL C3) (x4 := .slice B4 DD C4) HB3.out (Nat.le_refl _)
  obtain ⟨w4, hw4⟩ : ∃ w4, (((((w3.setCell ⟨w.heap.size, 0, none⟩ (.int .i64 k)).setCell ⟨w.heap.size, 1, none⟩ (.int .i64 n)).setCell ⟨w.heap.size, 2, none⟩ (.slice B2 q2 C2)).setCell ⟨w.heap.size, 3, none⟩ (.slice B3 LL C3)).setCell ⟨w.heap.size, 4, none⟩ (.slice B4 DD C4)) = w4 := ⟨_, rfl⟩
  rw [hw4] at hn4 ho4 hb4 ⊢
  have HN41 := Lib.hid hn4
  have HN42 := Lib.hid ho4
  have HB4 := Lib.hid hb4
  obtain ⟨t0, t1, t2, t3, t4, t5⟩ := row5_cells HN41.out
  clear hw4 hn4 ho4 hb4 r0 r1 r2 r3 r4 r5 m0 m1 m2' m3 m4 HU HN31 HN32 HZ3 HB3
  go_upto_region 3 with (go_at_call 68; refine (HF.out _ HB4.out).mono ?_; (rintro r w5 ⟨rfl, hb5⟩); have HN51 := Lib.hid (blk_keep9 hb5 HN41.out); have HN52 := Lib.hid (blk_keep9 hb5 HN42.out); have HB5 := Lib.hid (HB4.out.trans (hb5.mono HB4.out.size)); (obtain ⟨v0, v1, v2, v3, v4, v5⟩ := row5_cells HN51.out); clear hb5)
  have hn6 := heap_set w5 w.heap.size 4 (.slice B4 DD C4) _ _ HN51.out
  have ho6 := (set_blk9 w5 w.heap.size 4 (w.heap.size + 1) (.slice B4 DD C4) (by omega)).trans HN52.out
  have hb6 := HB5.out.setCell (p := ⟨w.heap.size, 4, none⟩) (Nat.le_refl _) (.slice B4 DD C4)
  obtain ⟨w6, hw6⟩ : ∃ w6, w5.setCell ⟨w.heap.size, 4, none⟩ (.slice B4 DD C4) = w6 := ⟨_, rfl⟩
  rw [hw6] at hn6 ho6 hb6 ⊢
  have HN61 := Lib.hid hn6
  have HN62 := Lib.hid ho6
  have HB6 := Lib.hid hb6
  obtain ⟨y0, y1, y2, y3, y4, y5⟩ := row5_cells (z0 := .int .i64 k) (z1 := .int .i64 n) (z2 := .slice B2 q2 C2) (z3 := .slice B3 LL C3) (z4 := .slice B4 DD C4) HN61.out
  obtain ⟨z0, z1, z2, z3, z4, z5⟩ := row5_cells HN62.out
  clear hw6 hn6 ho6 hb6 t0 t1 t2 t3 t4 t5 v0 v1 v2 v3 v4 v5 HF HN41 HN42 HN51 HN52 HB4 HB5
  go_wp2_with fail
  refine bodyPost_ret (results_cell_row rfl _ _ (w.heap.size + 1) 27 _ (0, 0) _ rfl (set5_row HN62.out) Try.underlying27 rfl (by kernel_rfl)) rfl ?_
  have hb7 := below_set5 (g := w.heap.size + 1) (x0 := .int .i64 k) (x1 := .int .i64 n) (x2 := .slice B2 q2 C2) (x3 := .slice B3 LL C3) (x4 := .slice B4 DD C4) HB6.out (Nat.le_succ _)
  exact ⟨_, _, _, _, _, rfl, HR.out _ hb7, hb7⟩
end
end Go.Proofs.Ytdkmomdioiipjaa
