/- Chapter 10: the project's used: an object as far as its kind uses its fields. Chapter 10: the project's Get. -/
import Derived.Test.YtkloipjkialakaaPp10
namespace Go.Proofs.Ytkloipjkialakaa
open Go.RowKit Go.Sort
set_option linter.unusedVariables false
set_option maxRecDepth 100000

abbrev nilV : Value := .slice none 0 0
def usedV (k n : Int) (vB vL vD : Value) : Value :=
  if k = 1 ∨ k = 2 ∨ k = 3 ∨ k = 9 then .agg #[.int .i64 k, .int .i64 n, nilV, nilV, nilV]
  else if k = 4 ∨ k = 5 then .agg #[.int .i64 k, .int .i64 0, vB, nilV, nilV]
  else if k = 6 then .agg #[.int .i64 k, .int .i64 0, nilV, vL, nilV]
  else if k = 7 then .agg #[.int .i64 k, .int .i64 0, nilV, nilV, vD]
  else if k = 8 then .agg #[.int .i64 k, .int .i64 0, vB, nilV, vD]
  else .agg #[.int .i64 0, .int .i64 0, nilV, nilV, nilV]
theorem pNone0 (w : World) : Calls Try.prog 43 #[] w fun e w' => e = .returned (.agg #[.int .i64 0, .int .i64 0, nilV, nilV, nilV]) ∧ Below w.heap.size w w' := by
  go_enter Try.func43, Try.ntmps43
  go_wp2_with fail
  exact bodyPost_ret (results_cell_row rfl _ _ w.heap.size 27 _ (0, 0) _ rfl (heap_alloc_new w _) Try.underlying27 rfl (by kernel_rfl)) rfl ⟨rfl, (Below.refl _ _).alloc (Nat.le_refl _) _⟩
set_option maxHeartbeats 4000000 in
theorem usedC (k n : Int) (A2 A3 A4 : Option Addr) (m2 c2 m3 c3 m4 c4 : Nat) (w : World) :
    Calls Try.prog 62 #[.agg #[.int .i64 k, .int .i64 n, .slice A2 m2 c2, .slice A3 m3 c3, .slice A4 m4 c4]] w fun e w' => e = .returned (usedV k n (.slice A2 m2 c2) (.slice A3 m3 c3) (.slice A4 m4 c4)) ∧ Below w.heap.size w w' := by
  have HU := usesC k
  have HB : Hid (∀ o1 o2 : Obj, Below w.heap.size w ((w.alloc o1).alloc o2)) := Lib.hid (fun o1 o2 => ((Below.refl _ _).alloc (Nat.le_refl _) o1).alloc (by simp) o2)
  by_cases h : k = 1 ∨ k = 2 ∨ k = 3 ∨ k = 4 ∨ k = 5 ∨ k = 6 ∨ k = 7 ∨ k = 8 ∨ k = 9
  · rcases h with rfl | rfl | rfl | rfl | rfl | rfl | rfl | rfl | rfl
    all_goals
      simp [usesZ] at HU
      go_enter Try.func62, Try.ntmps62
      go_wp2_with (go_at_call 69; refine (HU _).mono ?_; rintro e w' ⟨rfl, rfl⟩)
      refine bodyPost_ret (results_cell_row rfl _ _ (w.heap.size + 1) 27 _ (0, 0) _ rfl (heap_alloc2_new w _ _) Try.underlying27 rfl (by kernel_rfl)) rfl ?_
      exact ⟨by simp [usedV], HB.out _ _⟩
  · have e : usesZ k = 0 := by unfold usesZ; rw [if_neg (by omega), if_neg (by omega), if_neg (by omega), if_neg (by omega), if_neg (by omega)]
    have e2 : usedV k n (.slice A2 m2 c2) (.slice A3 m3 c3) (.slice A4 m4 c4) = .agg #[.int .i64 0, .int .i64 0, nilV, nilV, nilV] := by unfold usedV; rw [if_neg (by omega), if_neg (by omega), if_neg (by omega), if_neg (by omega), if_neg (by omega)]
    rw [e2]
    rw [e] at HU
    have HB2 := Lib.hid (HB.out (.cells #[.int .i64 k, .int .i64 n, .slice A2 m2 c2, .slice A3 m3 c3, .slice A4 m4 c4] 27) (.cells #[.int .i64 0, .int .i64 0, .slice none 0 0, .slice none 0 0, .slice none 0 0] 27))
    have hn := heap_alloc2_new w (.cells #[.int .i64 k, .int .i64 n, .slice A2 m2 c2, .slice A3 m3 c3, .slice A4 m4 c4] 27) (.cells #[.int .i64 0, .int .i64 0, .slice none 0 0, .slice none 0 0, .slice none 0 0] 27)
    have hsz : ((w.alloc (.cells #[.int .i64 k, .int .i64 n, .slice A2 m2 c2, .slice A3 m3 c3, .slice A4 m4 c4] 27)).alloc (.cells #[.int .i64 0, .int .i64 0, .slice none 0 0, .slice none 0 0, .slice none 0 0] 27)).heap.size = w.heap.size + 2 := by simp
    have hk0 : ((w.alloc (.cells #[.int .i64 k, .int .i64 n, .slice A2 m2 c2, .slice A3 m3 c3, .slice A4 m4 c4] 27)).alloc (.cells #[.int .i64 0, .int .i64 0, .slice none 0 0, .slice none 0 0, .slice none 0 0] 27)).cell? ⟨w.heap.size, 0, none⟩ = some (.int .i64 k) := by simp
    obtain ⟨W2, hW2⟩ : ∃ W2, (w.alloc (.cells #[.int .i64 k, .int .i64 n, .slice A2 m2 c2, .slice A3 m3 c3, .slice A4 m4 c4] 27)).alloc (.cells #[.int .i64 0, .int .i64 0, .slice none 0 0, .slice none 0 0, .slice none 0 0] 27) = W2 := ⟨_, rfl⟩
    rw [hW2] at HB2 hn hsz hk0
    have HN := Lib.hid hn
    have HZ := Lib.hid hsz
    have HW2 := Lib.hid hW2
    clear h e e2 hn hsz hW2 HB
    go_enter Try.func62, Try.ntmps62
    go_upto_region 1 with fail
    rw [HW2.out]
    go_wp2_with (first | (go_at_call 69; refine (HU _).mono ?_; rintro e w' ⟨rfl, rfl⟩) | (go_at_call 43; refine (pNone0 _).mono ?_; (rintro r w3 ⟨rfl, hb3⟩); have HN3 := Lib.hid (blk_keep9 hb3 HN.out); have HB3 := Lib.hid (HB2.out.trans (hb3.mono HB2.out.size)); (obtain ⟨r0, r1, r2, r3, r4, r5⟩ := zero_cells HN3.out); clear hb3 hk0))
    refine bodyPost_ret (results_cell_row rfl _ _ (w.heap.size + 1) 27 _ (0, 0) _ rfl (set5_row HN3.out) Try.underlying27 rfl (by kernel_rfl)) rfl ?_
    exact ⟨rfl, below_set5 HB3.out (Nat.le_succ _)⟩
abbrev zeroOb : Ob := .mk 0 0 [] .nil .nil
/-- The entries of an object that has some. -/
def keyedE : Ob → Ens
  | .mk k _ _ _ d => if k = 7 ∨ k = 8 then d else .nil
def getF (x : Ob) (key : ByteArray) : Ob := (lk (keyedE x).toL key).getD zeroOb
theorem used_D {w : World} {S : Nat → Prop} {x : Ob} {c0 c1 c2 c3 c4 : Value} (hx : ObR w S x c0 c1 c2 c3 c4) : ∃ A c, EnsV w S (keyedE x) A c ∧ ∀ W, Calls Try.prog 62 #[.agg #[c0, c1, c2, c3, c4]] W fun e w' => (∃ k9 n9 A29 m29 c29 A39 m39 c39, e = .returned (.agg #[.int .i64 k9, .int .i64 n9, .slice A29 m29 c29, .slice A39 m39 c39, .slice A (keyedE x).len c])) ∧ Below W.heap.size W w' := by
  obtain ⟨k, n, b, l, d⟩ := x
  unfold ObR at hx
  obtain ⟨rfl, rfl, hk, hn, ⟨A2, m2, c2, rfl, hB⟩, ⟨A3, c3, rfl, h3, hl⟩, ⟨A4, c4, rfl, h4, hd⟩⟩ := hx
  by_cases h : k = 7 ∨ k = 8
  · have e : keyedE (.mk k n b l d) = d := by rw [keyedE, if_pos h]
    rw [e]
    refine ⟨A4, c4, ⟨h4, hd⟩, fun W => (usedC k n A2 A3 A4 m2 c2 l.len c3 d.len c4 W).mono ?_⟩
    rintro e w' ⟨rfl, hb⟩
    refine ⟨?_, hb⟩
    unfold usedV
    rcases h with rfl | rfl
    · exact ⟨_, _, _, _, _, _, _, _, by rw [if_neg (by omega), if_neg (by omega), if_neg (by omega), if_pos rfl]⟩
    · exact ⟨_, _, _, _, _, _, _, _, by rw [if_neg (by omega), if_neg (by omega), if_neg (by omega), if_neg (by omega), if_pos rfl]⟩
  · have e : keyedE (.mk k n b l d) = .nil := by rw [keyedE, if_neg h]
    rw [e]
    refine ⟨none, 0, ⟨by simp [Ens.len], fun h => by simp [Ens.len] at h⟩, fun W => (usedC k n A2 A3 A4 m2 c2 l.len c3 d.len c4 W).mono ?_⟩
    rintro e w' ⟨rfl, hb⟩
    refine ⟨?_, hb⟩
    unfold usedV
    split
    · exact ⟨_, _, _, _, _, _, _, _, rfl⟩
    · split
      · exact ⟨_, _, _, _, _, _, _, _, rfl⟩
      · split
        · exact ⟨_, _, _, _, _, _, _, _, rfl⟩
        · rw [if_neg (fun e => h (.inl e)), if_neg (fun e => h (.inr e))]
          exact ⟨_, _, _, _, _, _, _, _, rfl⟩
theorem Ens.get_none : ∀ (l : Ens) (j : Nat), l.len ≤ j → l.get? j = none
  | .nil, j, _ => rfl
  | .cons t y ys, 0, h => by simp [Ens.len] at h
  | .cons t y ys, j + 1, h => by rw [Ens.get?]; exact Ens.get_none ys j (by rw [Ens.len] at h; omega)
theorem lk_get : ∀ (l : Ens) (i : Nat) (s : ByteArray) (x : Ob), l.get? i = some (s, x) → (∀ j t y, j < i → l.get? j = some (t, y) → t ≠ s) → lk l.toL s = some x
  | .nil, i, s, x, h, _ => by simp [Ens.get?] at h
  | .cons t y ys, 0, s, x, h, _ => by
    simp [Ens.get?] at h; obtain ⟨rfl, rfl⟩ := h
    rw [Ens.toL, lk, if_pos rfl]
  | .cons t y ys, i + 1, s, x, h, hn => by
    rw [Ens.toL, lk, if_neg (hn 0 t y (by omega) rfl)]
    exact lk_get ys i s x (by simpa [Ens.get?] using h) (fun j u z hj hu => hn (j + 1) u z (by omega) (by rw [Ens.get?]; exact hu))
theorem lk_no : ∀ (l : Ens) (s : ByteArray), (∀ j t y, l.get? j = some (t, y) → t ≠ s) → lk l.toL s = none
  | .nil, s, _ => rfl
  | .cons t y ys, s, hn => by
    rw [Ens.toL, lk, if_neg (hn 0 t y rfl)]
    exact lk_no ys s (fun j u z hu => hn (j + 1) u z (by rw [Ens.get?]; exact hu))
set_option maxHeartbeats 4000000 in
theorem pGetC (W : Nat) (x : Ob) (key : ByteArray) (S : Nat → Prop) (w : World) (c0 c1 c2 c3 c4 : Value) (hx : ObR w S x c0 c1 c2 c3 c4) (hS : ∀ g, S g → g < w.heap.size) (hW : wdE W (keyedE x)) (hK : W * htE (keyedE x) ≤ 1000000000) (hlen : (keyedE x).len ≤ 1000000000) :
    Calls Try.prog 41 #[.agg #[c0, c1, c2, c3, c4], .string key] w (CpP w (getF x key)) := by
  obtain ⟨A, c, hv, hu⟩ := used_D hx
  have hg : getF x key = (lk (keyedE x).toL key).getD zeroOb := rfl
  rw [hg]
  obtain ⟨E, hE⟩ : ∃ E, keyedE x = E := ⟨_, rfl⟩
  rw [hE] at hv hu hW hK hlen ⊢
  have a1 := (Below.refl w.heap.size w).alloc (Nat.le_refl _) (.cells #[c0, c1, c2, c3, c4] 27)
  have n1 := heap_alloc_new w (.cells #[c0, c1, c2, c3, c4] 27)
  have z1 : (w.alloc (.cells #[c0, c1, c2, c3, c4] 27)).heap.size = w.heap.size + 1 := by simp
  obtain ⟨W1, hW1⟩ : ∃ W1, w.alloc (.cells #[c0, c1, c2, c3, c4] 27) = W1 := ⟨_, rfl⟩
  rw [hW1] at a1 n1 z1
  have a2 := (Below.refl W1.heap.size W1).alloc (Nat.le_refl _) (.cells #[.int .i64 0, .int .i64 0, .slice none 0 0, .slice none 0 0, .slice none 0 0] 27)
  have n2 := heap_alloc_new W1 (.cells #[.int .i64 0, .int .i64 0, .slice none 0 0, .slice none 0 0, .slice none 0 0] 27)
  have z2 : (W1.alloc (.cells #[.int .i64 0, .int .i64 0, .slice none 0 0, .slice none 0 0, .slice none 0 0] 27)).heap.size = w.heap.size + 2 := by simp; omega
  obtain ⟨W2, hW2⟩ : ∃ W2, W1.alloc (.cells #[.int .i64 0, .int .i64 0, .slice none 0 0, .slice none 0 0, .slice none 0 0] 27) = W2 := ⟨_, rfl⟩
  rw [hW2] at a2 n2 z2
  rw [z1] at n2
  have e1 := (a2.block w.heap.size (by omega)).trans n1
  have lo := a1.trans (a2.mono (by omega))
  have k0 : W2.cell? ⟨w.heap.size, 0, none⟩ = some c0 := cell_of_row _ _ 0 _ _ (0, 0) e1
  have k1 : W2.cell? ⟨w.heap.size, 1, none⟩ = some c1 := cell_of_row _ _ 1 _ _ (0, 0) e1
  have k2 : W2.cell? ⟨w.heap.size, 2, none⟩ = some c2 := cell_of_row _ _ 2 _ _ (0, 0) e1
  have k3 : W2.cell? ⟨w.heap.size, 3, none⟩ = some c3 := cell_of_row _ _ 3 _ _ (0, 0) e1
  have k4 : W2.cell? ⟨w.heap.size, 4, none⟩ = some c4 := cell_of_row _ _ 4 _ _ (0, 0) e1
  have HN2 := Lib.hid n2
  have HLO := Lib.hid lo
  have HZ2 := Lib.hid z2
  have HZ1 := Lib.hid z1
  have HW1 := Lib.hid hW1
  have HW2 := Lib.hid hW2
  have HU := Lib.hid (hu W2)
  have HV := Lib.hid hv
  have HS := Lib.hid hS
  have HWD := Lib.hid hW
  have HKK := Lib.hid hK
  obtain ⟨N, hN⟩ : ∃ N, E.len = N := ⟨_, rfl⟩
  rw [hN] at HU hlen
  have HN := Lib.hid hN
  clear a1 a2 n1 n2 z1 z2 e1 lo hW1 hW2 hx hS hW hK hu hv hg hE hN
  have hfd : ∀ (v0 v1 v2 v3 v4 : Value) (Wx : World), (Instr.field 27 (.agg #[v0, v1, v2, v3, v4]) 4).run Try.prog Wx = .ok v4 Wx := fun _ _ _ _ _ _ => by kernel_rfl
  go_enter Try.func41, Try.ntmps41
  go_upto_region 1 with fail
  rw [HW1.out, HW2.out]
  go_wp2_with (go_at_call 62; (with_reducible refine HU.out.mono ?_); (rintro r w3 ⟨⟨k0', n0', A20, m20, c20, A30, m30, c30, rfl⟩, hb3⟩); have HB3 := Lib.hid (HLO.out.trans (hb3.mono HLO.out.size)); have HN3 := Lib.hid (blk_keep9 hb3 HN2.out); clear hb3 HU k0 k1 k2 k3 k4)
  go_loopw [11] (fun iv wr => ∃ i : Nat, i ≤ N ∧ iv = .int .i64 i ∧ Hid (Below w.heap.size w wr) ∧ Hid (wr.heap[w.heap.size + 1]? = some (.cells #[.int .i64 0, .int .i64 0, .slice none 0 0, .slice none 0 0, .slice none 0 0] 27 (0, 0))) ∧ Hid (∀ j t y, j < i → E.get? j = some (t, y) → t ≠ key)) (fun iv _ => N - (intOf iv).toNat)
  case atStart => exact ⟨0, Nat.zero_le _, rfl, HB3, HN3, Lib.hid (fun j t y h => by omega)⟩
  case round =>
    clear HB3 HN3
    obtain ⟨i, hi, rfl, HB3, HN3, HNO⟩ := hrel
    by_cases hlt : i < N
    · have hlz : (i : Int) < (N : Int) := by omega
      obtain ⟨sy, y, hy⟩ := E.get_some i (by rw [HN.out]; exact hlt)
      obtain ⟨g, o, eA, hg, hobs⟩ := HV.out.2 (by rw [HN.out]; omega)
      subst eA
      obtain ⟨d0, d1, d2, d3, d4, ks, q0, q1, q2, q3, q4, hyr⟩ := hobs.get E g o i sy y hy
      have hgw : g < w.heap.size := HS.out g hg
      obtain ⟨k9, n9, A29, m29, c29, A39, m39, c39, A49, m49, c49, rfl, rfl, rfl, rfl, rfl⟩ := hyr.form
      have e := fun j => World.cell?_of_block (a := ⟨g, j, none⟩) (HB3.out.block g hgw)
      have x0 := (e _).trans ks
      have x1 := (e _).trans q0
      have x2 := (e _).trans q1
      have x3 := (e _).trans q2
      have x4 := (e _).trans q3
      have x5 := (e _).trans q4
      have HY := Lib.hid hy
      have HYR := Lib.hid hyr
      have hb4 := (Below.refl wr.heap.size wr).alloc (Nat.le_refl _) (.cells #[.string sy, .int .i64 k9, .int .i64 n9, .slice A29 m29 c29, .slice A39 m39 c39, .slice A49 m49 c49] 32)
      have hn4 := heap_alloc_new wr (.cells #[.string sy, .int .i64 k9, .int .i64 n9, .slice A29 m29 c29, .slice A39 m39 c39, .slice A49 m49 c49] 32)
      obtain ⟨W4, hW4⟩ : ∃ W4, wr.alloc (.cells #[.string sy, .int .i64 k9, .int .i64 n9, .slice A29 m29 c29, .slice A39 m39 c39, .slice A49 m49 c49] 32) = W4 := ⟨_, rfl⟩
      rw [hW4] at hb4 hn4
      have HB4 := Lib.hid (HB3.out.trans (hb4.mono HB3.out.size))
      have HN4 := Lib.hid (blk_keep9 hb4 HN3.out)
      have HM4 := Lib.hid hn4
      have HW4 := Lib.hid hW4
      clear hy hobs hg hgw ks q0 q1 q2 q3 q4 hyr e hb4 hn4 hW4
      go_upto_region 4 with fail
      rw [HW4.out]
      clear x0 x1 x2 x3 x4 x5
      have y0 : W4.cell? ⟨wr.heap.size, 0, none⟩ = some (.string sy) := cell_of_row _ _ 0 _ _ (0, 0) HM4.out
      have y1 : W4.cell? ⟨wr.heap.size, 1, none⟩ = some (.int .i64 k9) := cell_of_row _ _ 1 _ _ (0, 0) HM4.out
      have y2 : W4.cell? ⟨wr.heap.size, 2, none⟩ = some (.int .i64 n9) := cell_of_row _ _ 2 _ _ (0, 0) HM4.out
      have y3 : W4.cell? ⟨wr.heap.size, 3, none⟩ = some (.slice A29 m29 c29) := cell_of_row _ _ 3 _ _ (0, 0) HM4.out
      have y4 : W4.cell? ⟨wr.heap.size, 4, none⟩ = some (.slice A39 m39 c39) := cell_of_row _ _ 4 _ _ (0, 0) HM4.out
      have y5 : W4.cell? ⟨wr.heap.size, 5, none⟩ = some (.slice A49 m49 c49) := cell_of_row _ _ 5 _ _ (0, 0) HM4.out
      by_cases hk : sy = key
      · have hbe : (sy.toList == key.toList) = true := by rw [hk]; simp
        have hlk := lk_get E i sy y HY.out (fun j t z hj hz => by rw [hk]; exact HNO.out j t z hj hz)
        rw [hk] at hlk
        have HLK := Lib.hid hlk
        have HCP := Lib.hid (pCopyC 1000000000 W y (wdE_get W E i sy y HWD.out HY.out) (Nat.le_trans (Nat.mul_le_mul_left W (htE_get E i sy y HY.out)) HKK.out) (Nat.le_refl _) S W4 _ _ _ _ _ (ObR.keep (fun b hb => HB4.out.block b (HS.out b hb)) (fun _ h => h) y HYR.out) (fun b hb => Nat.lt_of_lt_of_le (HS.out b hb) HB4.out.size))
        clear hlk hk
        go_wp2_with (go_at_call 22; (with_reducible refine HCP.out.mono ?_); (rintro r w5 ⟨d0, d1, d2, d3, d4, rfl, hx5, hb5⟩); (obtain ⟨l9, p9, B29, s29, t29, B39, s39, t39, B49, s49, t49, rfl, rfl, rfl, rfl, rfl⟩ := hx5.form); have HX5 := Lib.hid hx5; have HN5 := Lib.hid (blk_keep9 hb5 HN4.out); have HB5 := Lib.hid (HB4.out.trans (hb5.mono HB4.out.size)); (obtain ⟨r0, r1, r2, r3, r4, r5⟩ := zero_cells HN5.out); clear hx5 hb5 HCP y0 y1 y2 y3 y4 y5)
        refine bodyPost_ret (results_cell_row rfl _ _ (w.heap.size + 1) 27 _ (0, 0) _ rfl (set5_row HN5.out) Try.underlying27 rfl (by kernel_rfl)) rfl ?_
        have hlt9 := row_lt _ _ _ HN4.out
        rw [HLK.out]
        exact ⟨_, _, _, _, _, rfl, ObR.keep (fun b hb => heap_set5 (by have := hb.1; omega)) (fun b hb => ⟨by have := hb.1; have := HB4.out.size; omega, by rw [size_set5]; exact hb.2⟩) _ HX5.out, below_set5 HB5.out (Nat.le_succ _)⟩
      · have hbe : (sy.toList == key.toList) = false := str_ne (fun e => hk e)
        have HNO2 : Hid (∀ j t z, j < i + 1 → E.get? j = some (t, z) → t ≠ key) := Lib.hid (fun j t z hj hz => by
          by_cases hji : j < i
          · exact HNO.out j t z hji hz
          · obtain rfl : j = i := by omega
            rw [HY.out] at hz
            injection hz with hz
            injection hz with hz1 hz2
            rw [← hz1]; exact hk)
        clear hk
        go_wp2_with fail
        go_roundw
        case rel => exact ⟨i + 1, by omega, by go_num, HB4, HN4, HNO2⟩
        case measure => simp [intOf]; omega
    · obtain rfl : N = i := by omega
      have hlk := lk_no E key (fun j t z hz => by
        have hj : j < N := by
          rcases Nat.lt_or_ge j N with h | h
          · exact h
          · exfalso
            rw [Ens.get_none E j (by rw [HN.out]; exact h)] at hz
            cases hz
        exact HNO.out j t z hj hz)
      have HLK := Lib.hid hlk
      clear hlk
      obtain ⟨r0, r1, r2, r3, r4, r5⟩ := zero_cells HN3.out
      go_wp2_with (go_at_call 43; refine (pNone0 _).mono ?_; (rintro r w5 ⟨rfl, hb5⟩); have HN5 := Lib.hid (blk_keep9 hb5 HN3.out); have HB5 := Lib.hid (HB3.out.trans (hb5.mono HB3.out.size)); clear r0 r1 r2 r3 r4 r5; (obtain ⟨r0, r1, r2, r3, r4, r5⟩ := zero_cells HN5.out); clear hb5)
      refine bodyPost_ret (results_cell_row rfl _ _ (w.heap.size + 1) 27 _ (0, 0) _ rfl (set5_row HN5.out) Try.underlying27 rfl (by kernel_rfl)) rfl ?_
      rw [HLK.out]
      exact ⟨_, _, _, _, _, rfl, ObR.plain (by omega) (by omega) (bytS_nil _ _), below_set5 HB5.out (Nat.le_succ _)⟩
end Go.Proofs.Ytkloipjkialakaa
