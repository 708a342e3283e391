/- Contracts of functions that the law calls, and what they lean on (a part). -/
import Derived.Test.YtnlpdnimfaipmaaGreatVa39
namespace Go.Proofs.YtnlpdnimfaipmaaGreat
section
open Go.RowKit
set_option linter.unusedVariables false
set_option maxRecDepth 100000
abbrev zeroA : Array Value := #[.int .i64 0, .int .i64 0, .slice none 0 0, .slice none 0 0, .slice none 0 0]
/-- value, with so much fuel. -/
def RValC (m : Nat) (A : Option Addr) (n c d : Nat) (zs : List Int) (f : Nat) : Prop :=
  ∀ (dd : Nat) (w : World) (p : Nat), dd < 1000 → RX w m A n c d zs p → n - p < f → Calls Tryz.prog 35 #[.pointer (some ⟨m, 0, none⟩), .int .i64 dd] w (RvP m A n c d zs w (parF zs f .val dd p))
def RItsC (m : Nat) (A : Option Addr) (n c d : Nat) (zs : List Int) (f : Nat) : Prop :=
  ∀ (dd : Nat) (w : World) (p : Nat), dd < 1000 → RX w m A n c d zs p → n - p < f → Calls Tryz.prog 60 #[.pointer (some ⟨m, 0, none⟩), .int .i64 dd] w (RvP m A n c d zs w (parF zs f (.its .nil) dd p))
def REnsC (m : Nat) (A : Option Addr) (n c d : Nat) (zs : List Int) (f : Nat) : Prop :=
  ∀ (dd : Nat) (w : World) (p : Nat), dd < 1000 → RX w m A n c d zs p → n - p < f → Calls Tryz.prog 61 #[.pointer (some ⟨m, 0, none⟩), .int .i64 dd] w (RvP m A n c d zs w (parF zs f (.ens .nil) dd p))
def posR (m : Nat) (w : World) : Nat := match w.cell? ⟨m, 1, none⟩ with
  | some (.int _ q) => q.toNat
  | _ => 0
theorem RX.pos {w : World} {m n c d p : Nat} {A : Option Addr} {zs : List Int} (x : RX w m A n c d zs p) : posR m w = p := by
  unfold posR
  rw [x.c1]
  simp
/-- The object that is being filled, in a block of its own. -/
def ObB (b : Nat) (W : World) (c0 c1 c2 c3 c4 : Value) : Prop := W.heap[b]? = some (.cells #[c0, c1, c2, c3, c4] 27 (0, 0))
section
variable {b g B : Nat} {W W' : World} {c0 c1 c2 c3 c4 : Value}
theorem ObB.lt (h : ObB b W c0 c1 c2 c3 c4) : b < W.heap.size := row_lt W _ _ h
theorem ObB.only (h : ObB b W c0 c1 c2 c3 c4) (ho : Only g W W') (hg : b ≠ g) : ObB b W' c0 c1 c2 c3 c4 := (ho.block b h.lt hg).trans h
theorem ObB.low (h : ObB b W c0 c1 c2 c3 c4) (hb : Below B W W') (hB : b < B) : ObB b W' c0 c1 c2 c3 c4 := (hb.block b hB).trans h
theorem ObB.k0 (h : ObB b W c0 c1 c2 c3 c4) : W.cell? ⟨b, 0, none⟩ = some c0 := cell_of_row _ _ 0 _ _ (0, 0) h
theorem ObB.k1 (h : ObB b W c0 c1 c2 c3 c4) : W.cell? ⟨b, 1, none⟩ = some c1 := cell_of_row _ _ 1 _ _ (0, 0) h
theorem ObB.k2 (h : ObB b W c0 c1 c2 c3 c4) : W.cell? ⟨b, 2, none⟩ = some c2 := cell_of_row _ _ 2 _ _ (0, 0) h
theorem ObB.k3 (h : ObB b W c0 c1 c2 c3 c4) : W.cell? ⟨b, 3, none⟩ = some c3 := cell_of_row _ _ 3 _ _ (0, 0) h
theorem ObB.k4 (h : ObB b W c0 c1 c2 c3 c4) : W.cell? ⟨b, 4, none⟩ = some c4 := cell_of_row _ _ 4 _ _ (0, 0) h
theorem ObB.fr (h : ObB b W c0 c1 c2 c3 c4) (i : Nat) : W.frozen? ⟨b, i, none⟩ = false := by
  unfold ObB at h
  simp [World.frozen?, h]
theorem ObB.put3 (h : ObB b W c0 c1 c2 c3 c4) (v : Value) : ObB b (W.setCell ⟨b, 3, none⟩ v) c0 c1 c2 v c4 := heap_set W b 3 v [c0, c1, c2, c3, c4] _ h
theorem ObB.put4 (h : ObB b W c0 c1 c2 c3 c4) (v : Value) : ObB b (W.setCell ⟨b, 4, none⟩ v) c0 c1 c2 c3 v := heap_set W b 4 v [c0, c1, c2, c3, c4] _ h
end
theorem RX.keepO {w w' : World} {m n c d p g : Nat} {A : Option Addr} {zs : List Int} (x : RX w m A n c d zs p) (ho : Only g w w') (hg : m < g) (hgs : g ≤ w.heap.size) : RX w' m A n c d zs p := x.lowB (ho.below hgs) hg
/-- Both blocks of a maker: the answer's, and the one that is filled. -/
theorem two_new (w : World) (k : Int) : ∃ W0 W1, w.alloc (.cells zeroA 27) = W0 ∧ W0.alloc (.cells #[.int .i64 k, .int .i64 0, .slice none 0 0, .slice none 0 0, .slice none 0 0] 27) = W1 ∧ W0.heap.size = w.heap.size + 1 ∧ RsB w.heap.size W1 ∧ ObB (w.heap.size + 1) W1 (.int .i64 k) (.int .i64 0) (.slice none 0 0) (.slice none 0 0) (.slice none 0 0) ∧ Below w.heap.size w W1 ∧ W1.heap.size = w.heap.size + 2 := by
  have hb1 := (Below.refl w.heap.size w).alloc (Nat.le_refl _) (.cells zeroA 27)
  have hn1 := heap_alloc_new w (.cells zeroA 27)
  have hs1 : (w.alloc (.cells zeroA 27)).heap.size = w.heap.size + 1 := by simp
  refine ⟨_, _, rfl, rfl, hs1, ?_, ?_, ?_, by simp⟩
  · have hb2 := (Below.refl (w.alloc (.cells zeroA 27)).heap.size _).alloc (Nat.le_refl _) (.cells #[.int .i64 k, .int .i64 0, .slice none 0 0, .slice none 0 0, .slice none 0 0] 27)
    exact (hb2.block _ (by rw [hs1]; omega)).trans hn1
  · have hn2 := heap_alloc_new (w.alloc (.cells zeroA 27)) (.cells #[.int .i64 k, .int .i64 0, .slice none 0 0, .slice none 0 0, .slice none 0 0] 27)
    rw [hs1] at hn2
    exact hn2
  · have hb2 := (Below.refl (w.alloc (.cells zeroA 27)).heap.size _).alloc (Nat.le_refl _) (.cells #[.int .i64 k, .int .i64 0, .slice none 0 0, .slice none 0 0, .slice none 0 0] 27)
    exact hb1.trans (hb2.mono (by rw [hs1]; omega))
set_option maxHeartbeats 4000000 in
theorem rarrayC {m n c d : Nat} {A : Option Addr} {zs : List Int} (F : Nat) (IH : ∀ f, f ≤ F → RValC m A n c d zs f) : RItsC m A n c d zs F := by
  intro dd w p hdd x hf
  obtain ⟨R, hR⟩ : ∃ R, parF zs F (.its .nil) dd p = R := ⟨_, rfl⟩
  rw [hR]
  have HR := Lib.hid hR
  have HX := Lib.hid x
  have HF := Lib.hid hf
  have HIH := Lib.hid IH
  have HDD := Lib.hid hdd
  have HMW := Lib.hid x.lt
  obtain ⟨W0, W1, hW0, hW1, hs0, hrs, hob, hbl, hs1⟩ := two_new w 6
  have HW0 := Lib.hid hW0
  have HW1 := Lib.hid hW1
  have HS0 := Lib.hid hs0
  have HRS0 := Lib.hid hrs
  have HOB0 := Lib.hid hob
  have HBL := Lib.hid hbl
  have HS1 := Lib.hid hs1
  clear x hf hR IH hdd hW0 hW1 hs0 hrs hob hbl hs1
  go_enter Tryz.func60, Tryz.ntmps60
  go_wp2_with fail
  rw [HW0.out, HW1.out]
  go_loopw [7] (fun sv wr => ∃ (AV : Option Addr) (N cV q f' : Nat) (l : Obs), Hid (l.len = N) ∧ Hid (N ≤ q) ∧ Hid (RX wr m A n c d zs q) ∧ Hid (Only m w wr) ∧ Hid (RsB w.heap.size wr) ∧ Hid (ObB (w.heap.size + 1) wr (.int .i64 6) (.int .i64 0) (.slice none 0 0) (.slice AV N cV) (.slice none 0 0)) ∧ Hid (OwnO noneT wr (w.heap.size + 2) (.slice AV N cV) l) ∧ Hid (n - q < f' ∧ f' ≤ F) ∧ Hid (parF zs f' (.its l) dd q = R) ∧ Hid (w.heap.size + 2 ≤ wr.heap.size)) (fun _ wr => n + 1 - posR m wr)
  case atStart => exact ⟨none, 0, 0, p, F, .nil, Lib.hid rfl, Lib.hid (Nat.zero_le _), Lib.hid (HX.out.low HBL.out), Lib.hid (Only.of_below HBL.out m), HRS0, HOB0, Lib.hid (OwnO.nil _ _ _), Lib.hid ⟨HF.out, Nat.le_refl _⟩, HR, Lib.hid (Nat.le_of_eq HS1.out.symm)⟩
  case round =>
    obtain ⟨AV, N, cV, q, f', l, HN, HNQ, HXq, HOq, HRS, HOB, HOW, HFF, HPR, HZ⟩ := hrel
    obtain ⟨f, rfl⟩ : ∃ f, f' = f + 1 := ⟨f' - 1, by have := HFF.out; omega⟩
    have hpr := HPR.out
    rw [parF] at hpr
    have htk := rtkC HXq.out
    have hvl : ∀ W, RX W m A n c d zs q → Calls Tryz.prog 35 #[.pointer (some ⟨m, 0, none⟩), .int .i64 dd] W (RvP m A n c d zs W (parF zs (f + 1) .val dd q)) := fun W hW => HIH.out (f + 1) HFF.out.2 dd W q HDD.out hW HFF.out.1
    have hpv : (tokT zs q).e = 0 → parF zs (f + 1) .val dd q = begR zs (fun d q => parF zs f (.its .nil) d q) (fun d q => parF zs f (.ens .nil) d q) (tokT zs q) (blkP zs q) dd := fun h0 => by rw [parF, if_neg (fun h => h h0)]
    have hbq := parF_q zs (f + 1) .val dd q
    obtain ⟨B, hB⟩ : ∃ B, begR zs (fun d q => parF zs f (.its .nil) d q) (fun d q => parF zs f (.ens .nil) d q) (tokT zs q) (blkP zs q) dd = B := ⟨_, rfl⟩
    rw [hB] at hpv hpr
    obtain ⟨V, hV⟩ : ∃ V, parF zs (f + 1) .val dd q = V := ⟨_, rfl⟩
    rw [hV] at hpv hvl hbq
    obtain ⟨T, hT⟩ : ∃ T, tokT zs q = T := ⟨_, rfl⟩
    obtain ⟨bp, hbp⟩ : ∃ bp, blkP zs q = bp := ⟨_, rfl⟩
    rw [hT] at hpr hpv htk
    rw [hbp] at htk
    obtain ⟨e, k, v, b, q2⟩ := T
    dsimp only at hpr hpv htk
    have HTK := Lib.hid htk
    have HVL := Lib.hid hvl
    have c1 := HXq.out.c1
    clear hB hT hV hbp htk hvl HPR
    by_cases he : e = 0
    · subst he
      rw [if_neg (by decide)] at hpr
      obtain rfl : V = B := hpv rfl
      by_cases h6 : k = 6
      · subst h6
        rw [if_pos rfl] at hpr
        have HPR := Lib.hid hpr
        clear hpr hbq hpv HVL
        go_upto_region 4 with (first
          | (go_at_call 57; refine HTK.out.mono ?_; (rintro r w3 ⟨A3, l3, c3, rfl, hx3, ho3, hy3, hf3⟩); have HX3 := Lib.hid hx3; have HO3 := Lib.hid ho3; have HY3 := Lib.hid hy3; clear hx3 ho3 hy3 hf3))
        have hn4 := Bx.new w3 104 (.int .i64 6) (.int .i64 bp) (.int .i64 v) (.slice A3 l3 c3)
        have hb4 := (Below.refl w3.heap.size w3).alloc (Nat.le_refl _) (.cells #[.int .i64 6, .int .i64 bp, .int .i64 v, .slice A3 l3 c3] 104)
        obtain ⟨w4, hw4⟩ : ∃ w4, w3.alloc (.cells #[.int .i64 6, .int .i64 bp, .int .i64 v, .slice A3 l3 c3] 104) = w4 := ⟨_, rfl⟩
        rw [hw4] at hn4 hb4
        rw [hw4]
        have t0 := hn4.c0
        have t1 := hn4.c1
        have t2 := hn4.c2
        have t3 := hn4.c3
        have HN4 := Lib.hid hn4
        have HX4 := Lib.hid (HX3.out.low hb4)
        have ho4 := HO3.out.trans (Only.of_below hb4 m)
        have HO4 := Lib.hid (HOq.out.trans ho4)
        have HY4 := Lib.hid ((HY3.out.below hb4 (Nat.le_refl _)).more hb4.size)
        have HR4 := Lib.hid (HRS.out.only ho4 HMW.out)
        have HOB4 := Lib.hid (HOB.out.only ho4 (Nat.ne_of_gt (Nat.lt_succ_of_lt HMW.out)))
        have HQ4 := Lib.hid ho4
        clear hn4 hb4 hw4 ho4
        have hov : ObsV w4 (fun y => (w.heap.size ≤ y ∧ y ≠ w.heap.size) ∧ y < w4.heap.size) l AV cV ∧ l.len = N := by
          obtain ⟨A', c', e, hc, hx⟩ := (HOW.out.keepB HQ4.out (Nat.lt_succ_of_lt (Nat.lt_succ_of_lt HMW.out)) (fun h => h)).shape
          injection e with e1 e2 e3
          subst e1 e2 e3
          have key : ∀ b, (noneT b ∨ w.heap.size + 2 ≤ b) ∧ b < w4.heap.size → (w.heap.size ≤ b ∧ b ≠ w.heap.size) ∧ b < w4.heap.size := fun b hb => by
            have : w.heap.size + 2 ≤ b := hb.1.elim (fun h => h.elim) id
            exact ⟨by omega, hb.2⟩
          exact ⟨⟨hc, fun h0 => by
            obtain ⟨g, o, e, hg, hr⟩ := hx h0
            exact ⟨g, o, e, key g hg, ObsR.keep (fun _ _ => rfl) key l g o (key g hg) hg hr⟩⟩, rfl⟩
        have HF := Lib.hid (HR4.out.finR (Nat.le_refl _) (ob_arr hov.1 hov.2) HX4.out HO4.out HMW.out)
        obtain ⟨r0, r1, r2, r3, r4, r5⟩ := zero_cells HR4.out
        have o0 := HOB4.out.k0
        have o1 := HOB4.out.k1
        have o2 := HOB4.out.k2
        have o3 := HOB4.out.k3
        have o4 := HOB4.out.k4
        clear hov
        go_wp2_with fail
        refine bodyPost_ret (results_cell_row_tmp rfl _ _ w.heap.size 27 _ (0, 0) _ rfl HF.out.row Tryz.underlying27 rfl (by kernel_rfl) _ rfl) rfl ?_
        rw [← HPR.out]
        exact ⟨_, _, _, _, _, rfl, HF.out.ob, HF.out.px, HF.out.on⟩
      · rw [if_neg h6] at hpr
        have h6b : (k == 6) = false := beq_eq_false_iff_ne.2 h6
        clear h6 hpv
        by_cases hE : V.e = 0
        · rw [if_neg (fun h => h hE)] at hpr
          have HBQ := Lib.hid (hbq hE)
          have HPR := Lib.hid hpr
          obtain ⟨E, X, q5⟩ := V
          dsimp only at hE HBQ HPR
          subst hE
          clear hpr hbq
          go_upto_region 4 with (first
            | (go_at_call 57; refine HTK.out.mono ?_; (rintro r w3 ⟨A3, l3, c3, rfl, hx3, ho3, hy3, hf3⟩); have HX3 := Lib.hid hx3; have HO3 := Lib.hid ho3; have HY3 := Lib.hid hy3; clear hx3 ho3 hy3 hf3))
          have hn4 := Bx.new w3 104 (.int .i64 k) (.int .i64 bp) (.int .i64 v) (.slice A3 l3 c3)
          have hb4 := (Below.refl w3.heap.size w3).alloc (Nat.le_refl _) (.cells #[.int .i64 k, .int .i64 bp, .int .i64 v, .slice A3 l3 c3] 104)
          obtain ⟨w4, hw4⟩ : ∃ w4, w3.alloc (.cells #[.int .i64 k, .int .i64 bp, .int .i64 v, .slice A3 l3 c3] 104) = w4 := ⟨_, rfl⟩
          rw [hw4] at hn4 hb4
          rw [hw4]
          have t0 := hn4.c0
          have t1 := hn4.c1
          have t2 := hn4.c2
          have t3 := hn4.c3
          have HN4 := Lib.hid hn4
          have HX4 := Lib.hid (HX3.out.low hb4)
          have ho4 := HO3.out.trans (Only.of_below hb4 m)
          have HO4 := Lib.hid (HOq.out.trans ho4)
          have HY4 := Lib.hid ((HY3.out.below hb4 (Nat.le_refl _)).more hb4.size)
          have HR4 := Lib.hid (HRS.out.only ho4 HMW.out)
          have HOB4 := Lib.hid (HOB.out.only ho4 (Nat.ne_of_gt (Nat.lt_succ_of_lt HMW.out)))
          have HQ4 := Lib.hid ho4
          clear hn4 hb4 hw4 ho4
          have s1 := HX4.out.c1
          have sf := HX4.out.ld.fr 1
          have hs9 := HX4.out.seek q HXq.out.pl
          have HR9 := Lib.hid (HR4.out.only hs9.2 HMW.out)
          have HOB9 := Lib.hid (HOB4.out.only hs9.2 (Nat.ne_of_gt (Nat.lt_succ_of_lt HMW.out)))
          have HO9 := Lib.hid (HO4.out.trans hs9.2)
          have HOW9 := Lib.hid ((HOW.out.keepB HQ4.out (Nat.lt_succ_of_lt (Nat.lt_succ_of_lt HMW.out)) (fun h => h)).keepB hs9.2 (Nat.lt_succ_of_lt (Nat.lt_succ_of_lt HMW.out)) (fun h => h))
          have HX9 := Lib.hid hs9.1
          have HZ9 := Lib.hid (Nat.le_trans HZ.out (Nat.le_trans HQ4.out.size hs9.2.size))
          go_upto_region 9 with fail
          obtain ⟨w9, hw9⟩ : ∃ w9, w4.setCell ⟨m, 1, none⟩ (.int .i64 (q : Int)) = w9 := ⟨_, rfl⟩
          rw [hw9] at HR9 HOB9 HO9 HOW9 HX9 HZ9
          rw [hw9]
          clear hs9 hw9 s1 sf t0 t1 t2 t3
          go_upto_region 10 with (first
            | (go_at_call 35; refine (HVL.out _ HX9.out).mono ?_; (rintro r w7 ⟨d0, d1, d2, d3, d4, hrr, hob, hx7, ho7⟩); (try dsimp only at hrr hob hx7); subst hrr; obtain ⟨k7, n7, A5, m5, e5, A6, m6, e6, A7, m7, e7, rfl, rfl, rfl, rfl, rfl⟩ := hob.shp; have HOX := Lib.hid hob; have HX7 := Lib.hid hx7; have HO7 := Lib.hid ho7; clear hob hx7 ho7))
          have hb8 := (Below.refl w7.heap.size w7).alloc (Nat.le_refl _) (.cells #[.int .i64 k7, .int .i64 n7, .slice A5 m5 e5, .slice A6 m6 e6, .slice A7 m7 e7] 27)
          have hn8 := heap_alloc_new w7 (.cells #[.int .i64 k7, .int .i64 n7, .slice A5 m5 e5, .slice A6 m6 e6, .slice A7 m7 e7] 27)
          obtain ⟨w8, hw8⟩ : ∃ w8, w7.alloc (.cells #[.int .i64 k7, .int .i64 n7, .slice A5 m5 e5, .slice A6 m6 e6, .slice A7 m7 e7] 27) = w8 := ⟨_, rfl⟩
          rw [hw8] at hb8 hn8
          rw [hw8]
          have c0 : w8.cell? ⟨w7.heap.size, 0, none⟩ = some (.int .i64 k7) := cell_of_row _ _ 0 _ _ (0, 0) hn8
          have cc1 : w8.cell? ⟨w7.heap.size, 1, none⟩ = some (.int .i64 n7) := cell_of_row _ _ 1 _ _ (0, 0) hn8
          have c2 : w8.cell? ⟨w7.heap.size, 2, none⟩ = some (.slice A5 m5 e5) := cell_of_row _ _ 2 _ _ (0, 0) hn8
          have cc3 : w8.cell? ⟨w7.heap.size, 3, none⟩ = some (.slice A6 m6 e6) := cell_of_row _ _ 3 _ _ (0, 0) hn8
          have c4 : w8.cell? ⟨w7.heap.size, 4, none⟩ = some (.slice A7 m7 e7) := cell_of_row _ _ 4 _ _ (0, 0) hn8
          have HB8 := Lib.hid hb8
          have HX8 := Lib.hid (HX7.out.low hb8)
          have HO8 := Lib.hid ((HO9.out.trans HO7.out).trans (Only.of_below hb8 m))
          have HR8 := Lib.hid ((HR9.out.only HO7.out HMW.out).low hb8)
          have hob8 := HOB9.out.only HO7.out (Nat.ne_of_gt (Nat.lt_succ_of_lt HMW.out))
          have HOB8 := Lib.hid (hob8.low hb8 hob8.lt)
          have HZ8 := Lib.hid (Nat.le_trans HZ9.out (Nat.le_trans HO7.out.size hb8.size))
          have ob3 := HOB8.out.k3
          clear hb8 hn8 hw8 hob8
          have hap := OwnO.litG HOW9.out HO7.out (Nat.lt_succ_of_lt (Nat.lt_succ_of_lt HMW.out)) (fun h => h) HB8.out X HOX.out (by have := HN.out; have := HNQ.out; have := HXq.out.pl; have := HXq.out.sm; omega) HZ9.out (fun _ h => h.elim)
          rw [HN.out] at hap
          have HAP := Lib.hid hap
          have fz := fun (W : World) (hW : ObB (w.heap.size + 1) W (.int .i64 6) (.int .i64 0) (.slice none 0 0) (.slice AV N cV) (.slice none 0 0)) => hW.fr 3
          clear hap
          go_wp2_with (first
            | (at_builtin; obtain ⟨A10, c10, w10, hrun, ho10, hb10⟩ := HAP.out; refine Lib.wpList_append_run_sl _ rfl (.tmp 48) (.tmp 50) 24 rfl _ _ rfl rfl hrun ?_; clear hrun; have HOW10 := Lib.hid ho10; have HX10 := Lib.hid (HX8.out.lowB hb10 (Nat.lt_succ_of_lt (Nat.lt_succ_of_lt HMW.out))); have HO10 := Lib.hid (HO8.out.lowB (hb10.mono (Nat.le_add_right _ 2))); have HOB10 := Lib.hid (HOB8.out.low hb10 (Nat.lt_succ_self _)); have HR10 : Hid (RsB w.heap.size w10) := Lib.hid ((hb10.block _ (by omega)).trans HR8.out); have HZ10 := Lib.hid (Nat.le_trans HZ8.out hb10.size); have f10 := HOB10.out.fr 3; have o10 := HOB10.out.k3; clear ho10 hb10 fz))
          have hset := (Only.refl (w.heap.size + 1) w10).set_ 3 (.slice A10 (N + 1) c10)
          have hzz : (w10.setCell ⟨w.heap.size + 1, 3, none⟩ (.slice A10 (N + 1) c10)).heap.size = w10.heap.size := by simp [World.setCell]
          have HX11 := Lib.hid (HX10.out.keepO hset (Nat.lt_succ_of_lt HMW.out) (by have := HZ10.out; omega))
          have HO11 : Hid (Only m w (w10.setCell ⟨w.heap.size + 1, 3, none⟩ (.slice A10 (N + 1) c10))) := Lib.hid (HO10.out.setN (Nat.le_succ _) 3 _)
          have HR11 : Hid (RsB w.heap.size (w10.setCell ⟨w.heap.size + 1, 3, none⟩ (.slice A10 (N + 1) c10))) := Lib.hid ((hset.block _ (by have := HZ10.out; omega) (by omega)).trans HR10.out)
          have HOW11 := Lib.hid (HOW10.out.keepB hset (Nat.lt_succ_self _) (fun h => h))
          have HOB11 := Lib.hid (HOB10.out.put3 (.slice A10 (N + 1) c10))
          have HZ11 : Hid (w.heap.size + 2 ≤ (w10.setCell ⟨w.heap.size + 1, 3, none⟩ (.slice A10 (N + 1) c10)).heap.size) := Lib.hid (by rw [hzz]; exact HZ10.out)
          clear hset hzz
          go_roundw
          case rel => exact ⟨A10, N + 1, c10, q5, f, l.snoc X, Lib.hid (by rw [Obs.snoc_len, HN.out]), Lib.hid (by have := HNQ.out; have := HBQ.out; omega), HX11, HO11, HR11, HOB11, HOW11, Lib.hid (by have := HFF.out; have := HBQ.out; have := HX11.out.pl; omega), HPR, HZ11⟩
          case measure => have := HX11.out.pos; have := HXq.out.pos; have := HBQ.out; have := HX11.out.pl; omega
        · rw [if_pos hE] at hpr
          have HPR := Lib.hid hpr
          obtain ⟨E, X, q5⟩ := V
          dsimp only at hE HPR
          have hEb : (E == 0) = false := beq_eq_false_iff_ne.2 hE
          clear hpr hbq hE
          go_upto_region 4 with (first
            | (go_at_call 57; refine HTK.out.mono ?_; (rintro r w3 ⟨A3, l3, c3, rfl, hx3, ho3, hy3, hf3⟩); have HX3 := Lib.hid hx3; have HO3 := Lib.hid ho3; have HY3 := Lib.hid hy3; clear hx3 ho3 hy3 hf3))
          have hn4 := Bx.new w3 104 (.int .i64 k) (.int .i64 bp) (.int .i64 v) (.slice A3 l3 c3)
          have hb4 := (Below.refl w3.heap.size w3).alloc (Nat.le_refl _) (.cells #[.int .i64 k, .int .i64 bp, .int .i64 v, .slice A3 l3 c3] 104)
          obtain ⟨w4, hw4⟩ : ∃ w4, w3.alloc (.cells #[.int .i64 k, .int .i64 bp, .int .i64 v, .slice A3 l3 c3] 104) = w4 := ⟨_, rfl⟩
          rw [hw4] at hn4 hb4
          rw [hw4]
          have t0 := hn4.c0
          have t1 := hn4.c1
          have t2 := hn4.c2
          have t3 := hn4.c3
          have HN4 := Lib.hid hn4
          have HX4 := Lib.hid (HX3.out.low hb4)
          have ho4 := HO3.out.trans (Only.of_below hb4 m)
          have HO4 := Lib.hid (HOq.out.trans ho4)
          have HY4 := Lib.hid ((HY3.out.below hb4 (Nat.le_refl _)).more hb4.size)
          have HR4 := Lib.hid (HRS.out.only ho4 HMW.out)
          have HOB4 := Lib.hid (HOB.out.only ho4 (Nat.ne_of_gt (Nat.lt_succ_of_lt HMW.out)))
          have HQ4 := Lib.hid ho4
          clear hn4 hb4 hw4 ho4
          have s1 := HX4.out.c1
          have sf := HX4.out.ld.fr 1
          have hs9 := HX4.out.seek q HXq.out.pl
          have HR9 := Lib.hid (HR4.out.only hs9.2 HMW.out)
          have HOB9 := Lib.hid (HOB4.out.only hs9.2 (Nat.ne_of_gt (Nat.lt_succ_of_lt HMW.out)))
          have HO9 := Lib.hid (HO4.out.trans hs9.2)
          have HOW9 := Lib.hid ((HOW.out.keepB HQ4.out (Nat.lt_succ_of_lt (Nat.lt_succ_of_lt HMW.out)) (fun h => h)).keepB hs9.2 (Nat.lt_succ_of_lt (Nat.lt_succ_of_lt HMW.out)) (fun h => h))
          have HX9 := Lib.hid hs9.1
          have HZ9 := Lib.hid (Nat.le_trans HZ.out (Nat.le_trans HQ4.out.size hs9.2.size))
          go_upto_region 9 with fail
          obtain ⟨w9, hw9⟩ : ∃ w9, w4.setCell ⟨m, 1, none⟩ (.int .i64 (q : Int)) = w9 := ⟨_, rfl⟩
          rw [hw9] at HR9 HOB9 HO9 HOW9 HX9 HZ9
          rw [hw9]
          clear hs9 hw9 s1 sf t0 t1 t2 t3
          go_upto_region 10 with (first
            | (go_at_call 35; refine (HVL.out _ HX9.out).mono ?_; (rintro r w7 ⟨d0, d1, d2, d3, d4, hrr, hob, hx7, ho7⟩); (try dsimp only at hrr hob hx7); subst hrr; obtain ⟨k7, n7, A5, m5, e5, A6, m6, e6, A7, m7, e7, rfl, rfl, rfl, rfl, rfl⟩ := hob.shp; have HOX := Lib.hid hob; have HX7 := Lib.hid hx7; have HO7 := Lib.hid ho7; clear hob hx7 ho7))
          have hb8 := (Below.refl w7.heap.size w7).alloc (Nat.le_refl _) (.cells #[.int .i64 k7, .int .i64 n7, .slice A5 m5 e5, .slice A6 m6 e6, .slice A7 m7 e7] 27)
          have hn8 := heap_alloc_new w7 (.cells #[.int .i64 k7, .int .i64 n7, .slice A5 m5 e5, .slice A6 m6 e6, .slice A7 m7 e7] 27)
          obtain ⟨w8, hw8⟩ : ∃ w8, w7.alloc (.cells #[.int .i64 k7, .int .i64 n7, .slice A5 m5 e5, .slice A6 m6 e6, .slice A7 m7 e7] 27) = w8 := ⟨_, rfl⟩
          rw [hw8] at hb8 hn8
          rw [hw8]
          have c0 : w8.cell? ⟨w7.heap.size, 0, none⟩ = some (.int .i64 k7) := cell_of_row _ _ 0 _ _ (0, 0) hn8
          have cc1 : w8.cell? ⟨w7.heap.size, 1, none⟩ = some (.int .i64 n7) := cell_of_row _ _ 1 _ _ (0, 0) hn8
          have c2 : w8.cell? ⟨w7.heap.size, 2, none⟩ = some (.slice A5 m5 e5) := cell_of_row _ _ 2 _ _ (0, 0) hn8
          have cc3 : w8.cell? ⟨w7.heap.size, 3, none⟩ = some (.slice A6 m6 e6) := cell_of_row _ _ 3 _ _ (0, 0) hn8
          have c4 : w8.cell? ⟨w7.heap.size, 4, none⟩ = some (.slice A7 m7 e7) := cell_of_row _ _ 4 _ _ (0, 0) hn8
          have HB8 := Lib.hid hb8
          have HX8 := Lib.hid (HX7.out.low hb8)
          have HO8 := Lib.hid ((HO9.out.trans HO7.out).trans (Only.of_below hb8 m))
          have HR8 := Lib.hid ((HR9.out.only HO7.out HMW.out).low hb8)
          have hob8 := HOB9.out.only HO7.out (Nat.ne_of_gt (Nat.lt_succ_of_lt HMW.out))
          have HOB8 := Lib.hid (hob8.low hb8 hob8.lt)
          have HZ8 := Lib.hid (Nat.le_trans HZ9.out (Nat.le_trans HO7.out.size hb8.size))
          have ob3 := HOB8.out.k3
          clear hb8 hn8 hw8 hob8
          have HF := Lib.hid (HR8.out.finR (Nat.le_refl _) (ob_nul _ _) HX8.out HO8.out HMW.out)
          obtain ⟨r0, r1, r2, r3, r4, r5⟩ := zero_cells HR8.out
          go_wp2_with fail
          refine bodyPost_ret (results_cell_row_tmp rfl _ _ w.heap.size 27 _ (0, 0) _ rfl HF.out.row Tryz.underlying27 rfl (by kernel_rfl) _ rfl) rfl ?_
          rw [← HPR.out]
          exact ⟨_, _, _, _, _, rfl, HF.out.ob, HF.out.px, HF.out.on⟩
    · rw [if_pos he] at hpr
      have HPR := Lib.hid hpr
      have heb : (e == 0) = false := beq_eq_false_iff_ne.2 he
      clear hpr hbq hpv he HVL
      go_upto_region 4 with (first
        | (go_at_call 57; refine HTK.out.mono ?_; (rintro r w3 ⟨A3, l3, c3, rfl, hx3, ho3, hy3, hf3⟩); have HX3 := Lib.hid hx3; have HO3 := Lib.hid ho3; have HY3 := Lib.hid hy3; clear hx3 ho3 hy3 hf3))
      have hn4 := Bx.new w3 104 (.int .i64 k) (.int .i64 bp) (.int .i64 v) (.slice A3 l3 c3)
      have hb4 := (Below.refl w3.heap.size w3).alloc (Nat.le_refl _) (.cells #[.int .i64 k, .int .i64 bp, .int .i64 v, .slice A3 l3 c3] 104)
      obtain ⟨w4, hw4⟩ : ∃ w4, w3.alloc (.cells #[.int .i64 k, .int .i64 bp, .int .i64 v, .slice A3 l3 c3] 104) = w4 := ⟨_, rfl⟩
      rw [hw4] at hn4 hb4
      rw [hw4]
      have t0 := hn4.c0
      have t1 := hn4.c1
      have t2 := hn4.c2
      have t3 := hn4.c3
      have HN4 := Lib.hid hn4
      have HX4 := Lib.hid (HX3.out.low hb4)
      have ho4 := HO3.out.trans (Only.of_below hb4 m)
      have HO4 := Lib.hid (HOq.out.trans ho4)
      have HY4 := Lib.hid ((HY3.out.below hb4 (Nat.le_refl _)).more hb4.size)
      have HR4 := Lib.hid (HRS.out.only ho4 HMW.out)
      have HOB4 := Lib.hid (HOB.out.only ho4 (Nat.ne_of_gt (Nat.lt_succ_of_lt HMW.out)))
      have HQ4 := Lib.hid ho4
      clear hn4 hb4 hw4 ho4
      have HF := Lib.hid (HR4.out.finR (Nat.le_refl _) (ob_nul _ _) HX4.out HO4.out HMW.out)
      obtain ⟨r0, r1, r2, r3, r4, r5⟩ := zero_cells HR4.out
      go_wp2_with fail
      refine bodyPost_ret (results_cell_row_tmp rfl _ _ w.heap.size 27 _ (0, 0) _ rfl HF.out.row Tryz.underlying27 rfl (by kernel_rfl) _ rfl) rfl ?_
      rw [← HPR.out]
      exact ⟨_, _, _, _, _, rfl, HF.out.ob, HF.out.px, HF.out.on⟩
end

section
open Go.RowKit
set_option linter.unusedVariables false
set_option maxRecDepth 100000
def keysL (l : Ens) : List Value := l.toL.map (fun p => Value.string p.1)
theorem keysL_len (l : Ens) : (keysL l).length = l.len := by unfold keysL; rw [List.length_map, Ens.toL_len]
theorem keysL_snoc (l : Ens) (s : ByteArray) (x : Ob) : keysL (l.snoc s x) = keysL l ++ [.string s] := by unfold keysL; rw [toL_snoc, List.map_append]; rfl
theorem toL_get : ∀ (l : Ens) (i : Nat) (t : ByteArray) (x : Ob), l.get? i = some (t, x) → l.toL[i]? = some (t, x)
  | .nil, i, t, x, h => by simp [Ens.get?] at h
  | .cons s y ys, 0, t, x, h => by simp [Ens.get?] at h; obtain ⟨rfl, rfl⟩ := h; rfl
  | .cons s y ys, i + 1, t, x, h => by rw [Ens.toL]; simpa using toL_get ys i t x (by simpa [Ens.get?] using h)
theorem keysL_get (l : Ens) (i : Nat) (hi : i < l.len) : ∃ t x, l.get? i = some (t, x) ∧ (keysL l)[i]? = some (.string t) := by
  obtain ⟨t, x, h⟩ := l.get_some i hi
  refine ⟨t, x, h, ?_⟩
  unfold keysL
  rw [List.getElem?_map, toL_get l i t x h]
  rfl
theorem getK : ∀ (l : Ens) (i : Nat) (t : ByteArray) (x : Ob), l.get? i = some (t, x) → hasK t l = true
  | .nil, i, t, x, h => by simp [Ens.get?] at h
  | .cons s y ys, 0, t, x, h => by simp [Ens.get?] at h; obtain ⟨rfl, rfl⟩ := h; simp [hasK]
  | .cons s y ys, i + 1, t, x, h => by
    rw [hasK, getK ys i t x (by simpa [Ens.get?] using h), Bool.or_true]
theorem hasK_get : ∀ (l : Ens) (s : ByteArray), (∀ a, a < l.len → ∀ t y, l.get? a = some (t, y) → ¬ t = s) → hasK s l = false
  | .nil, s, h => rfl
  | .cons t y ys, s, h => by
    rw [hasK, hasK_get ys s (fun a ha t' y' hg => h (a + 1) (by rw [Ens.len]; omega) t' y' (by simpa [Ens.get?] using hg)), Bool.or_false]
    exact decide_eq_false (h 0 (by rw [Ens.len]; omega) t y rfl)
theorem dictF_snoc : ∀ (l acc : Ens) (s : ByteArray) (x : Ob), dictF (l.snoc s x) acc = withE s x (dictF l acc) (decide (x.kind = 0))
  | .nil, acc, s, x => rfl
  | .cons t y ys, acc, s, x => by rw [Ens.snoc, dictF, dictF, dictF_snoc ys _ s x]
theorem infoStr : (Tryz.prog.info? 9).map (fun i => (i.zero, i.size, i.bytes)) = some (some (.string ⟨#[]⟩), 1, 16) := by kernel_rfl
theorem keyAppend {w : World} {base : Nat} {kv : Value} {l : Ens} (h : OwnV w base 9 kv (keysL l)) (hl : l.len ≤ 1000000000) (hb : base ≤ w.heap.size) (s : ByteArray) :
    ∃ A' c' w', (Builtin.append_ #[61, 61] 61 #[kv, .slice (some ⟨w.heap.size, 0, none⟩) 1 1]).run Tryz.prog (w.alloc (.cells #[.string s] 9)) = .ok (.slice A' (l.len + 1) c') w' ∧ OwnV w' base 9 (.slice A' (l.len + 1) c') (keysL l ++ [.string s]) ∧ KeepX kv w (.slice A' (l.len + 1) c') w' := by
  obtain ⟨i0, hi, hz0, hz1, hz2⟩ := info_parts infoStr
  have hb1 := (Below.refl w.heap.size w).alloc (Nat.le_refl _) (.cells #[.string s] 9)
  have hn := heap_alloc_new w (.cells #[.string s] 9)
  obtain ⟨v', w', hr, ho, hk, A', c', rfl⟩ := (h.low hb1).append1 61 61 i0 (.string ⟨#[]⟩) 16 Tryz.underlying61 hi hz0 hz1 hz2 rfl (by decide) w.heap.size (.string s) (cell_of_row _ _ 0 _ _ (0, 0) hn) rfl (by rw [keysL_len]; exact hl) (Nat.le_trans hb hb1.size)
  rw [keysL_len] at hr ho hk
  exact ⟨A', c', w', hr, ho, hk.start hb1⟩
theorem Byt.keepF {w w' : World} {B F n c : Nat} {A : Option Addr} {zs : List Int} (h : Byt w B A n c zs) (hf : From F A n) (hk : ∀ b, F ≤ b → b < B → w'.heap[b]? = w.heap[b]?) : Byt w' B A n c zs :=
  ⟨h.len, h.cap, h.rng, fun hn => by
    obtain ⟨b, o, e, hlt, hc⟩ := h.cell hn
    exact ⟨b, o, e, hlt, fun j hj => (World.cell?_of_block (a := ⟨b, o + j, none⟩) (hk b (hf hn b o e) hlt)).trans (hc j hj)⟩⟩
/-- The dictionary's entries, apart from the row of keys. -/
def DcV (w : World) (base : Nat) (kv : Value) (O : Ens) (AV : Option Addr) (cV : Nat) : Prop := EnsV w (ownS noneT w base kv) O AV cV
section
variable {w w' : World} {base g cV : Nat} {kv kv' : Value} {O : Ens} {AV : Option Addr}
theorem DcV.keepO2 (h : DcV w base kv O AV cV) (ho : Only g w w') (hg : g < base) : DcV w' base kv O AV cV :=
  EnsV.keep h (fun b hb => ho.block b hb.2.1 (by rcases hb.1 with h | h; exact h.elim; omega)) (fun b hb => ⟨hb.1, Nat.lt_of_lt_of_le hb.2.1 ho.size, hb.2.2⟩)
theorem DcV.low (h : DcV w base kv O AV cV) (hb : Below w.heap.size w w') : DcV w' base kv O AV cV :=
  EnsV.keep h (fun b hb2 => hb.block b hb2.2.1) (fun b hb2 => ⟨hb2.1, Nat.lt_of_lt_of_le hb2.2.1 hb.size, hb2.2.2⟩)
theorem DcV.keepK (h : DcV w base kv O AV cV) (hk : KeepX kv w kv' w') : DcV w' base kv' O AV cV :=
  EnsV.keep h (fun b hb => hk.block b hb.2.1 hb.2.2) (fun b hb => ownS_grow hk hb)
theorem DcV.fin {w0 : World} (h : DcV w (w0.heap.size + 2) kv O AV cV) : EnsV w (fun y => (w0.heap.size ≤ y ∧ y ≠ w0.heap.size) ∧ y < w.heap.size) O AV cV :=
  EnsV.keep h (fun _ _ => rfl) (fun b hb => by
    have : w0.heap.size + 2 ≤ b := hb.1.elim (fun h => h.elim) id
    exact ⟨by omega, hb.2.1⟩)
end
set_option maxHeartbeats 8000000 in
theorem rdictC {m n c d : Nat} {A : Option Addr} {zs : List Int} (F : Nat) (IH : ∀ f, f < F → RValC m A n c d zs f) : REnsC m A n c d zs F := by
  intro dd w p hdd x hf
  obtain ⟨R, hR⟩ : ∃ R, parF zs F (.ens .nil) dd p = R := ⟨_, rfl⟩
  rw [hR]
  have HR := Lib.hid hR
  have HX := Lib.hid x
  have HF := Lib.hid hf
  have HIH := Lib.hid IH
  have HDD := Lib.hid hdd
  have HMW := Lib.hid x.lt
  obtain ⟨W0, W1, hW0, hW1, hs0, hrs, hob, hbl, hs1⟩ := two_new w 7
  have HW0 := Lib.hid hW0
  have HW1 := Lib.hid hW1
  have HRS0 := Lib.hid hrs
  have HOB0 := Lib.hid hob
  have HBL := Lib.hid hbl
  have HS1 := Lib.hid hs1
  clear x hf hR IH hdd hW0 hW1 hs0 hrs hob hbl hs1
  go_enter Tryz.func61, Tryz.ntmps61
  go_wp2_with fail
  rw [HW0.out, HW1.out]
  go_loopw [6] (fun kv wr => ∃ (AK : Option Addr) (cK : Nat) (AV : Option Addr) (cV N M q f' : Nat) (l : Ens), kv = .slice AK N cK ∧ Hid (l.len = N ∧ (dictF l .nil).len = M ∧ M ≤ N) ∧ Hid (N ≤ q) ∧ Hid (RX wr m A n c d zs q) ∧ Hid (Only m w wr) ∧ Hid (RsB w.heap.size wr) ∧ Hid (ObB (w.heap.size + 1) wr (.int .i64 7) (.int .i64 0) (.slice none 0 0) (.slice none 0 0) (.slice AV M cV)) ∧ Hid (OwnV wr (w.heap.size + 2) 9 (.slice AK N cK) (keysL l)) ∧ Hid (DcV wr (w.heap.size + 2) (.slice AK N cK) (dictF l .nil) AV cV) ∧ Hid (n - q < f' ∧ f' ≤ F) ∧ Hid (parF zs f' (.ens l) dd q = R) ∧ Hid (w.heap.size + 2 ≤ wr.heap.size)) (fun _ wr => n + 1 - posR m wr)
  case atStart => exact ⟨none, 0, none, 0, 0, 0, p, F, .nil, rfl, Lib.hid ⟨rfl, rfl, Nat.le_refl _⟩, Lib.hid (Nat.zero_le _), Lib.hid (HX.out.low HBL.out), Lib.hid (Only.of_below HBL.out m), HRS0, HOB0, Lib.hid (OwnV.nil _ _ _), Lib.hid ⟨by simp [dictF, Ens.len], fun h => absurd h (by simp [dictF, Ens.len])⟩, Lib.hid ⟨HF.out, Nat.le_refl _⟩, HR, Lib.hid (Nat.le_of_eq HS1.out.symm)⟩
  case round =>
    obtain ⟨AK, cK, AV, cV, N, M, q, f', l, rfl, HN, HNQ, HXq, HOq, HRS, HOB, HKV, HDV, HFF, HPR, HZ⟩ := hrel
    obtain ⟨f, rfl⟩ : ∃ f, f' = f + 1 := ⟨f' - 1, by have := HFF.out; omega⟩
    have hpr := HPR.out
    rw [parF] at hpr
    have htk := rtkC HXq.out
    have hgt := tokT_gt zs q
    have hbl := tokT_len zs q
    have hbn : blkP zs q ≤ n := by have := (blkP_le zs q HXq.out.pz).2; rw [HXq.out.len] at this; exact this
    have hvl : (tokT zs q).e = 0 → (tokT zs q).k ≠ 0 → ∀ W, RX W m A n c d zs (tokT zs q).q → Calls Tryz.prog 35 #[.pointer (some ⟨m, 0, none⟩), .int .i64 dd] W (RvP m A n c d zs W (parF zs f .val dd (tokT zs q).q)) := fun h0 hk W hW => HIH.out f (by have := HFF.out; omega) dd W _ HDD.out hW (by have := tokT_gt zs q h0 hk; have := hW.pl; have := HFF.out; omega)
    have hpq := parF_q zs f .val dd (tokT zs q).q
    have hok := parF_ok zs (by rw [HXq.out.len]; have := HXq.out.sm; omega) f .val dd (tokT zs q).q (tokT_q zs q HXq.out.pz) trivial
    obtain ⟨V, hV⟩ : ∃ V, parF zs f .val dd (tokT zs q).q = V := ⟨_, rfl⟩
    rw [hV] at hvl hpr hpq hok
    obtain ⟨T, hT⟩ : ∃ T, tokT zs q = T := ⟨_, rfl⟩
    obtain ⟨bp, hbp⟩ : ∃ bp, blkP zs q = bp := ⟨_, rfl⟩
    rw [hT] at hvl hpr hpq htk hgt hbl
    rw [hbp] at hpr htk hbn
    obtain ⟨e, k, v, b, q2⟩ := T
    dsimp only at hvl hpr hpq htk hgt hbl
    obtain ⟨s, hs⟩ : ∃ s, strOfNums b = s := ⟨_, rfl⟩
    have HS := Lib.hid hs
    rw [hs] at hpr
    obtain ⟨hk, hhk⟩ : ∃ hk, hasK s l = hk := ⟨_, rfl⟩
    have HHK := Lib.hid hhk
    rw [hhk] at hpr
    have HTK := Lib.hid htk
    have HBN := Lib.hid hbn
    have HOK := Lib.hid hok
    have c1 := HXq.out.c1
    clear hV hT hbp htk HPR hs hhk hbn hbl hok
    by_cases he : e = 0
    · subst he
      rw [if_neg (by decide)] at hpr
      by_cases h8 : k = 8
      · subst h8
        rw [if_pos rfl] at hpr
        have HPR := Lib.hid hpr
        clear hpr hpq hvl hgt
        go_upto_region 4 with (first
          | (go_at_call 57; refine HTK.out.mono ?_; (rintro r w3 ⟨A3, l3, c3, rfl, hx3, ho3, hy3, hf3⟩); have HX3 := Lib.hid hx3; have HO3 := Lib.hid ho3; have HY3 := Lib.hid hy3; have HF3 := Lib.hid hf3; clear hx3 ho3 hy3 hf3))
        have hn4 := Bx.new w3 104 (.int .i64 8) (.int .i64 bp) (.int .i64 v) (.slice A3 l3 c3)
        have hb4 := (Below.refl w3.heap.size w3).alloc (Nat.le_refl _) (.cells #[.int .i64 8, .int .i64 bp, .int .i64 v, .slice A3 l3 c3] 104)
        obtain ⟨w4, hw4⟩ : ∃ w4, w3.alloc (.cells #[.int .i64 8, .int .i64 bp, .int .i64 v, .slice A3 l3 c3] 104) = w4 := ⟨_, rfl⟩
        rw [hw4] at hn4 hb4
        rw [hw4]
        have t0 := hn4.c0
        have t1 := hn4.c1
        have t2 := hn4.c2
        have t3 := hn4.c3
        have HN4 := Lib.hid hn4
        have HX4 := Lib.hid (HX3.out.low hb4)
        have ho4 := HO3.out.trans (Only.of_below hb4 m)
        have HO4 := Lib.hid (HOq.out.trans ho4)
        have HY4 := Lib.hid ((HY3.out.below hb4 (Nat.le_refl _)).more hb4.size)
        have HR4 := Lib.hid (HRS.out.only ho4 HMW.out)
        have HOB4 := Lib.hid (HOB.out.only ho4 (Nat.ne_of_gt (Nat.lt_succ_of_lt HMW.out)))
        have HQ4 := Lib.hid ho4
        have HKV4 := Lib.hid (HKV.out.same fun b hb => ho4.block b (HKV.out.lt b hb).1 (by have := (HKV.out.lt b hb).2; have := HMW.out; omega))
        have HDV4 := Lib.hid (HDV.out.keepO2 ho4 (Nat.lt_succ_of_lt (Nat.lt_succ_of_lt HMW.out)))
        clear hn4 hb4 hw4 ho4
        have HF := Lib.hid (HR4.out.finR (Nat.le_refl _) (ob_dic HDV4.out.fin HN.out.2.1) HX4.out HO4.out HMW.out)
        obtain ⟨r0, r1, r2, r3, r4, r5⟩ := zero_cells HR4.out
        have o0 := HOB4.out.k0
        have o1 := HOB4.out.k1
        have o2 := HOB4.out.k2
        have o3 := HOB4.out.k3
        have o4 := HOB4.out.k4
        go_wp2_with fail
        refine bodyPost_ret (results_cell_row_tmp rfl _ _ w.heap.size 27 _ (0, 0) _ rfl HF.out.row Tryz.underlying27 rfl (by kernel_rfl) _ rfl) rfl ?_
        rw [← HPR.out]
        exact ⟨_, _, _, _, _, rfl, HF.out.ob, HF.out.px, HF.out.on⟩
      · rw [if_neg h8] at hpr
        have h8b : (k == 8) = false := beq_eq_false_iff_ne.2 h8
        clear h8
        by_cases h0 : k = 0
        · subst h0
          rw [if_pos rfl] at hpr
          have HPR := Lib.hid hpr
          have HST := Lib.hid (fun W (hW : RX W m A n c d zs q2) => stopC hW bp 2 HBN.out)
          clear hpr hpq hvl hgt
          go_upto_region 4 with (first
            | (go_at_call 57; refine HTK.out.mono ?_; (rintro r w3 ⟨A3, l3, c3, rfl, hx3, ho3, hy3, hf3⟩); have HX3 := Lib.hid hx3; have HO3 := Lib.hid ho3; have HY3 := Lib.hid hy3; have HF3 := Lib.hid hf3; clear hx3 ho3 hy3 hf3))
          have hn4 := Bx.new w3 104 (.int .i64 0) (.int .i64 bp) (.int .i64 v) (.slice A3 l3 c3)
          have hb4 := (Below.refl w3.heap.size w3).alloc (Nat.le_refl _) (.cells #[.int .i64 0, .int .i64 bp, .int .i64 v, .slice A3 l3 c3] 104)
          obtain ⟨w4, hw4⟩ : ∃ w4, w3.alloc (.cells #[.int .i64 0, .int .i64 bp, .int .i64 v, .slice A3 l3 c3] 104) = w4 := ⟨_, rfl⟩
          rw [hw4] at hn4 hb4
          rw [hw4]
          have t0 := hn4.c0
          have t1 := hn4.c1
          have t2 := hn4.c2
          have t3 := hn4.c3
          have HN4 := Lib.hid hn4
          have HX4 := Lib.hid (HX3.out.low hb4)
          have ho4 := HO3.out.trans (Only.of_below hb4 m)
          have HO4 := Lib.hid (HOq.out.trans ho4)
          have HY4 := Lib.hid ((HY3.out.below hb4 (Nat.le_refl _)).more hb4.size)
          have HR4 := Lib.hid (HRS.out.only ho4 HMW.out)
          have HOB4 := Lib.hid (HOB.out.only ho4 (Nat.ne_of_gt (Nat.lt_succ_of_lt HMW.out)))
          have HQ4 := Lib.hid ho4
          have HKV4 := Lib.hid (HKV.out.same fun b hb => ho4.block b (HKV.out.lt b hb).1 (by have := (HKV.out.lt b hb).2; have := HMW.out; omega))
          have HDV4 := Lib.hid (HDV.out.keepO2 ho4 (Nat.lt_succ_of_lt (Nat.lt_succ_of_lt HMW.out)))
          clear hn4 hb4 hw4 ho4
          go_wp2_with (first
            | (go_at_call 58; refine (HST.out _ HX4.out).mono ?_; (rintro r w5 ⟨d0, d1, d2, d3, d4, hrr, hob, hx5, ho5⟩); (try dsimp only [noR] at hrr hob hx5); subst hrr; obtain ⟨k5, n5, A5, m5, e5, A6, m6, e6, A7, m7, e7, rfl, rfl, rfl, rfl, rfl⟩ := hob.shp; have HRF := Lib.hid (RsB.only HR4.out ho5 HMW.out); obtain ⟨r0, r1, r2, r3, r4, r5⟩ := zero_cells HRF.out; have HF := Lib.hid (RsB.finRN (w := w) HR4.out HRF.out (Nat.le_refl _) hob hx5 (Only.trans HO4.out ho5) HMW.out); clear hob hx5 ho5))
          refine bodyPost_ret (results_cell_row_tmp rfl _ _ w.heap.size 27 _ (0, 0) _ rfl HF.out.row Tryz.underlying27 rfl (by kernel_rfl) _ rfl) rfl ?_
          rw [← HPR.out]
          exact ⟨_, _, _, _, _, rfl, HF.out.ob, HF.out.px, HF.out.on⟩
        · rw [if_neg h0] at hpr
          have h0b : (k == 0) = false := beq_eq_false_iff_ne.2 h0
          have HST := Lib.hid (fun W (hW : RX W m A n c d zs q2) => stopC hW bp 4 HBN.out)
          by_cases h4 : k = 4
          · subst h4
            clear h0 h0b h8b
            go_upto_region 4 with (first
              | (go_at_call 57; refine HTK.out.mono ?_; (rintro r w3 ⟨A3, l3, c3, rfl, hx3, ho3, hy3, hf3⟩); have HX3 := Lib.hid hx3; have HO3 := Lib.hid ho3; have HY3 := Lib.hid hy3; have HF3 := Lib.hid hf3; clear hx3 ho3 hy3 hf3))
            have hn4 := Bx.new w3 104 (.int .i64 4) (.int .i64 bp) (.int .i64 v) (.slice A3 l3 c3)
            have hb4 := (Below.refl w3.heap.size w3).alloc (Nat.le_refl _) (.cells #[.int .i64 4, .int .i64 bp, .int .i64 v, .slice A3 l3 c3] 104)
            obtain ⟨w4, hw4⟩ : ∃ w4, w3.alloc (.cells #[.int .i64 4, .int .i64 bp, .int .i64 v, .slice A3 l3 c3] 104) = w4 := ⟨_, rfl⟩
            rw [hw4] at hn4 hb4
            rw [hw4]
            have t0 := hn4.c0
            have t1 := hn4.c1
            have t2 := hn4.c2
            have t3 := hn4.c3
            have HN4 := Lib.hid hn4
            have HX4 := Lib.hid (HX3.out.low hb4)
            have ho4 := HO3.out.trans (Only.of_below hb4 m)
            have HO4 := Lib.hid (HOq.out.trans ho4)
            have HY4 := Lib.hid ((HY3.out.below hb4 (Nat.le_refl _)).more hb4.size)
            have HR4 := Lib.hid (HRS.out.only ho4 HMW.out)
            have HOB4 := Lib.hid (HOB.out.only ho4 (Nat.ne_of_gt (Nat.lt_succ_of_lt HMW.out)))
            have HQ4 := Lib.hid ho4
            have HKV4 := Lib.hid (HKV.out.same fun b hb => ho4.block b (HKV.out.lt b hb).1 (by have := (HKV.out.lt b hb).2; have := HMW.out; omega))
            have HDV4 := Lib.hid (HDV.out.keepO2 ho4 (Nat.lt_succ_of_lt (Nat.lt_succ_of_lt HMW.out)))
            clear hn4 hb4 hw4 ho4
            have HVL := Lib.hid (hvl (by trivial) (by decide))
            have HGT := Lib.hid (hgt (by trivial) (by decide))
            have HPQ := Lib.hid hpq
            have HPR0 := Lib.hid hpr
            have hcv := fun W (hW : Below w4.heap.size w4 W) => conv_str (HY4.out.below hW (Nat.le_refl _)) s HS.out
            have HCV := Lib.hid hcv
            clear hvl hgt hpq hpr hcv
            go_wp2_with fail
            go_loopw [10] (fun iv wx => ∃ (i j : Nat), iv = .int .i64 i ∧ i ≤ N ∧ wx = w4.drewN j ∧ Hid (∀ a, a < i → ∀ t y, l.get? a = some (t, y) → ¬ t = s)) (fun iv _ => N - (intOf iv).toNat)
            case atStart => exact ⟨0, 0, rfl, Nat.zero_le _, rfl, Lib.hid (fun a ha => absurd ha (Nat.not_lt_zero _))⟩
            case round =>
              obtain ⟨i, j, rfl, hi, rfl, HNE⟩ := hrel
              have hNb : N ≤ 1000000000 := by have := HNQ.out; have := HXq.out.pl; have := HXq.out.sm; omega
              by_cases hlt : i < N
              · have hgi := keysL_get l i (by rw [HN.out.1]; exact hlt)
                obtain ⟨t, y, hg, hkl⟩ := hgi
                have hcell := HKV4.out.cell (by rw [keysL_len, HN.out.1]; omega)
                obtain ⟨gk, ck, ek, hgk, hck⟩ := hcell
                injection ek with ek1 ek2 ek3
                subst ek1
                have hci := hck i (by rw [keysL_len, HN.out.1]; exact hlt)
                have hkv := List.getElem?_eq_some_iff.1 hkl
                obtain ⟨hkl1, hkl2⟩ := hkv
                rw [hkl2] at hci
                have hin : (i : Int) < N := by omega
                have hcv := fun k => conv_str ((HY4.out.drewN j).drewN k) s HS.out
                by_cases hts : t = s
                · subst hts
                  have hh : hk = true := by rw [← HHK.out]; exact getK l i t y hg
                  subst hh
                  have hpr := HPR0.out
                  rw [if_pos (.inr rfl)] at hpr
                  have HPR := Lib.hid hpr
                  have HR4d : Hid (RsB w.heap.size ((w4.drewN j).drewN 1)) := Lib.hid HR4.out
                  clear hpr hkl1 hkl2 hkl hck hgk hg ek2 ek3
                  go_upto_region 15 with fail
                  refine wp_region_heldR (fun W => W.cell? ⟨gk, i, none⟩ = some (.string t) ∧ W.cell? ⟨w3.heap.size, 3, none⟩ = some (.slice A3 l3 c3) ∧ (convert 23 9 (.slice A3 l3 c3)).run Tryz.prog W = .ok (.string t) W) 1000 (by kernel_rfl) ⟨hci, HN4.out.c3, hcv 1⟩ (fun hHeld => ?_)
                  refine wpAnyR_take 0 rfl (by kernel_rfl) (by kernel_rfl) (by kernel_rfl) (by kernel_rfl) (fun _ _ _ h => h) (by rfl) (v := ?_) ?_ (by assumption) ?_
                  rotate_left
                  focus
                    intro wS hSw
                    (try dsimp only at hSw)
                    go_simp
                    (try simp only [hSw])
                    try with_reducible rfl
                  intro hHeld
                  try simp only [Act.put, List.setIfInBounds_toArray, List.set_cons_zero, List.set_cons_succ]
                  refine wpAnyR_take 1 rfl (by kernel_rfl) (by kernel_rfl) (by kernel_rfl) (by kernel_rfl) (fun _ _ _ h => h) (by rfl) (v := ?_) ?_ (by assumption) ?_
                  rotate_left
                  focus
                    intro wS hSw
                    (try dsimp only at hSw)
                    go_simp
                    (try simp only [hSw])
                    try with_reducible rfl
                  intro hHeld
                  try simp only [Act.put, List.setIfInBounds_toArray, List.set_cons_zero, List.set_cons_succ]
                  refine wpAnyR_take 2 rfl (by kernel_rfl) (by kernel_rfl) (by kernel_rfl) (by kernel_rfl) (fun _ _ _ h => h) (by rfl) (v := ?_) ?_ (by assumption) ?_
                  rotate_left
                  focus
                    intro wS hSw
                    (try dsimp only at hSw)
                    go_simp
                    (try simp only [hSw])
                    try with_reducible rfl
                  intro hHeld
                  try simp only [Act.put, List.setIfInBounds_toArray, List.set_cons_zero, List.set_cons_succ]
                  refine wpAnyR_take 3 rfl (by kernel_rfl) (by kernel_rfl) (by kernel_rfl) (by kernel_rfl) (fun _ _ _ h => h) (by rfl) (v := ?_) ?_ (by assumption) ?_
                  rotate_left
                  focus
                    intro wS hSw
                    (try dsimp only at hSw)
                    go_simp
                    (try simp only [hSw])
                    try with_reducible rfl
                  intro hHeld
                  try simp only [Act.put, List.setIfInBounds_toArray, List.set_cons_zero, List.set_cons_succ]
                  refine wpAnyR_take 4 rfl (by kernel_rfl) (by kernel_rfl) (by kernel_rfl) (by kernel_rfl) (fun _ _ _ h => h) (by rfl) (v := ?_) ?_ (by assumption) ?_
                  rotate_left
                  focus
                    intro wS hSw
                    (try dsimp only at hSw)
                    go_simp
                    (try simp only [hSw])
                    try with_reducible rfl
                  intro hHeld
                  try simp only [Act.put, List.setIfInBounds_toArray, List.set_cons_zero, List.set_cons_succ]
                  refine wpAnyR_take 5 rfl (by kernel_rfl) (by kernel_rfl) (by kernel_rfl) (by kernel_rfl) (fun _ _ _ h => h) (by rfl) (v := ?_) ?_ (by assumption) ?_
                  rotate_left
                  focus
                    intro wS hSw
                    (try dsimp only at hSw)
                    go_simp
                    (try simp only [hSw])
                    try with_reducible rfl
                  intro hHeld
                  try simp only [Act.put, List.setIfInBounds_toArray, List.set_cons_zero, List.set_cons_succ]
                  refine wpAnyR_take 6 rfl (by kernel_rfl) (by kernel_rfl) (by kernel_rfl) (by kernel_rfl) (fun _ _ _ h => h) (by rfl) (v := ?_) ?_ (by assumption) ?_
                  rotate_left
                  focus
                    intro wS hSw
                    (try dsimp only at hSw)
                    go_simp
                    (try simp only [hSw])
                    try with_reducible rfl
                  intro hHeld
                  try simp only [Act.put, List.setIfInBounds_toArray, List.set_cons_zero, List.set_cons_succ]
                  refine wpAnyR_take 7 rfl (by kernel_rfl) (by kernel_rfl) (by kernel_rfl) (by kernel_rfl) (fun _ _ _ h => h) (by rfl) (v := ?_) ?_ (by assumption) ?_
                  rotate_left
                  focus
                    intro wS hSw
                    (try dsimp only at hSw)
                    go_simp
                    (try simp only [hSw])
                    try with_reducible rfl
                  intro hHeld
                  try simp only [Act.put, List.setIfInBounds_toArray, List.set_cons_zero, List.set_cons_succ]
                  refine wpAnyR_done (by kernel_rfl) ?_
                  refine NoPanic.normal ?_
                  go_wp2_with (first
                    | (go_at_call 58; refine (HST.out _ ((HX4.out.drewN j).drewN 1)).mono ?_; (rintro r w5 ⟨d0, d1, d2, d3, d4, hrr, hob, hx5, ho5⟩); (try dsimp only [noR] at hrr hob hx5); subst hrr; obtain ⟨k5, n5, A5, m5, e5, A6, m6, e6, A7, m7, e7, rfl, rfl, rfl, rfl, rfl⟩ := hob.shp; have HRF := Lib.hid (RsB.only HR4d.out ho5 HMW.out); obtain ⟨r0, r1, r2, r3, r4, r5⟩ := zero_cells HRF.out; have HF := Lib.hid (RsB.finRN (w := w) HR4d.out HRF.out (Nat.le_refl _) hob hx5 (Only.trans ((HO4.out.drewN j).drewN 1) ho5) HMW.out); clear hob hx5 ho5))
                  refine bodyPost_ret (results_cell_row_tmp rfl _ _ w.heap.size 27 _ (0, 0) _ rfl HF.out.row Tryz.underlying27 rfl (by kernel_rfl) _ rfl) rfl ?_
                  rw [← HPR.out]
                  exact ⟨_, _, _, _, _, rfl, HF.out.ob, HF.out.px, HF.out.on⟩
                · have hbe : (t.toList == s.toList) = false := str_ne hts
                  have HNE2 : Hid (∀ a, a < i + 1 → ∀ t y, l.get? a = some (t, y) → ¬ t = s) := Lib.hid (fun a ha t' y' hg' => by
                    rcases Nat.lt_or_ge a i with h | h
                    · exact HNE.out a h t' y' hg'
                    · obtain rfl : a = i := by omega
                      rw [hg] at hg'
                      injection hg' with hg'
                      injection hg' with h1 h2
                      rw [← h1]; exact hts)
                  clear hkl1 hkl2 hkl hck hgk hg ek2 ek3 hts
                  go_upto_region 15 with fail
                  refine wp_region_heldR (fun W => W.cell? ⟨gk, i, none⟩ = some (.string t) ∧ W.cell? ⟨w3.heap.size, 3, none⟩ = some (.slice A3 l3 c3) ∧ (convert 23 9 (.slice A3 l3 c3)).run Tryz.prog W = .ok (.string s) W) 1000 (by kernel_rfl) ⟨hci, HN4.out.c3, hcv 1⟩ (fun hHeld => ?_)
                  refine wpAnyR_take 0 rfl (by kernel_rfl) (by kernel_rfl) (by kernel_rfl) (by kernel_rfl) (fun _ _ _ h => h) (by rfl) (v := ?_) ?_ (by assumption) ?_
                  rotate_left
                  focus
                    intro wS hSw
                    (try dsimp only at hSw)
                    go_simp
                    (try simp only [hSw])
                    try with_reducible rfl
                  intro hHeld
                  try simp only [Act.put, List.setIfInBounds_toArray, List.set_cons_zero, List.set_cons_succ]
                  refine wpAnyR_take 1 rfl (by kernel_rfl) (by kernel_rfl) (by kernel_rfl) (by kernel_rfl) (fun _ _ _ h => h) (by rfl) (v := ?_) ?_ (by assumption) ?_
                  rotate_left
                  focus
                    intro wS hSw
                    (try dsimp only at hSw)
                    go_simp
                    (try simp only [hSw])
                    try with_reducible rfl
                  intro hHeld
                  try simp only [Act.put, List.setIfInBounds_toArray, List.set_cons_zero, List.set_cons_succ]
                  refine wpAnyR_take 2 rfl (by kernel_rfl) (by kernel_rfl) (by kernel_rfl) (by kernel_rfl) (fun _ _ _ h => h) (by rfl) (v := ?_) ?_ (by assumption) ?_
                  rotate_left
                  focus
                    intro wS hSw
                    (try dsimp only at hSw)
                    go_simp
                    (try simp only [hSw])
                    try with_reducible rfl
                  intro hHeld
                  try simp only [Act.put, List.setIfInBounds_toArray, List.set_cons_zero, List.set_cons_succ]
                  refine wpAnyR_take 3 rfl (by kernel_rfl) (by kernel_rfl) (by kernel_rfl) (by kernel_rfl) (fun _ _ _ h => h) (by rfl) (v := ?_) ?_ (by assumption) ?_
                  rotate_left
                  focus
                    intro wS hSw
                    (try dsimp only at hSw)
                    go_simp
                    (try simp only [hSw])
                    try with_reducible rfl
                  intro hHeld
                  try simp only [Act.put, List.setIfInBounds_toArray, List.set_cons_zero, List.set_cons_succ]
                  refine wpAnyR_take 4 rfl (by kernel_rfl) (by kernel_rfl) (by kernel_rfl) (by kernel_rfl) (fun _ _ _ h => h) (by rfl) (v := ?_) ?_ (by assumption) ?_
                  rotate_left
                  focus
                    intro wS hSw
                    (try dsimp only at hSw)
                    go_simp
                    (try simp only [hSw])
                    try with_reducible rfl
                  intro hHeld
                  try simp only [Act.put, List.setIfInBounds_toArray, List.set_cons_zero, List.set_cons_succ]
                  refine wpAnyR_take 5 rfl (by kernel_rfl) (by kernel_rfl) (by kernel_rfl) (by kernel_rfl) (fun _ _ _ h => h) (by rfl) (v := ?_) ?_ (by assumption) ?_
                  rotate_left
                  focus
                    intro wS hSw
                    (try dsimp only at hSw)
                    go_simp
                    (try simp only [hSw])
                    try with_reducible rfl
                  intro hHeld
                  try simp only [Act.put, List.setIfInBounds_toArray, List.set_cons_zero, List.set_cons_succ]
                  refine wpAnyR_take 6 rfl (by kernel_rfl) (by kernel_rfl) (by kernel_rfl) (by kernel_rfl) (fun _ _ _ h => h) (by rfl) (v := ?_) ?_ (by assumption) ?_
                  rotate_left
                  focus
                    intro wS hSw
                    (try dsimp only at hSw)
                    go_simp
                    (try simp only [hSw])
                    try with_reducible rfl
                  intro hHeld
                  try simp only [Act.put, List.setIfInBounds_toArray, List.set_cons_zero, List.set_cons_succ]
                  refine wpAnyR_take 7 rfl (by kernel_rfl) (by kernel_rfl) (by kernel_rfl) (by kernel_rfl) (fun _ _ _ h => h) (by rfl) (v := ?_) ?_ (by assumption) ?_
                  rotate_left
                  focus
                    intro wS hSw
                    (try dsimp only at hSw)
                    go_simp
                    (try simp only [hSw])
                    try with_reducible rfl
                  intro hHeld
                  try simp only [Act.put, List.setIfInBounds_toArray, List.set_cons_zero, List.set_cons_succ]
                  refine wpAnyR_done (by kernel_rfl) ?_
                  refine NoPanic.normal ?_
                  go_wp2_with fail
                  go_roundw
                  case rel => exact ⟨i + 1, j + 1, by go_num, by omega, rfl, HNE2⟩
                  case measure => simp [intOf]; omega
              · obtain rfl : i = N := by omega
                have hh : hk = false := by rw [← HHK.out]; exact hasK_get l s (fun a ha t y hg => HNE.out a (by rw [← HN.out.1]; exact ha) t y hg)
                subst hh
                have hpr := HPR0.out
                rw [if_neg (fun h => h.elim (fun h => h rfl) (fun h => by cases h))] at hpr
                have HPR2 := Lib.hid hpr
                clear hpr HPR0
                have HX5 := Lib.hid (HX4.out.drewN j)
                have HO5 := Lib.hid (HO4.out.drewN j)
                have HR5 : Hid (RsB w.heap.size (w4.drewN j)) := Lib.hid HR4.out
                have HOB5 : Hid (ObB (w.heap.size + 1) (w4.drewN j) (.int .i64 7) (.int .i64 0) (.slice none 0 0) (.slice none 0 0) (.slice AV M cV)) := Lib.hid HOB4.out
                have HKV5 := Lib.hid (HKV4.out.drewN j)
                have HDV5 := Lib.hid (HDV4.out.low (below_drewN (Below.refl _ _) j))
                have HN5 := Lib.hid (HN4.out.drewN j)
                have HY5 : Hid (Byt (w4.drewN j) (w4.drewN j).heap.size A3 l3 c3 b) := Lib.hid (HY4.out.drewN j)
                have HZ5 : Hid (w.heap.size + 2 ≤ (w4.drewN j).heap.size) := Lib.hid (Nat.le_trans HZ.out HQ4.out.size)
                have HW3 : Hid (w3.heap.size < (w4.drewN j).heap.size) := Lib.hid HN4.out.lt
                have HKL : Hid (∀ b, (Value.slice AK i cK).ownBlock = some b → b < wr.heap.size) := Lib.hid (fun b hb => (HKV.out.lt b hb).1)
                have HWR : Hid (wr.heap.size ≤ w3.heap.size) := Lib.hid HO3.out.size
                obtain ⟨W5, hW5⟩ : ∃ W5, w4.drewN j = W5 := ⟨_, rfl⟩
                rw [hW5] at HX5 HO5 HR5 HOB5 HKV5 HDV5 HN5 HY5 HZ5 HW3
                rw [hW5]
                clear hW5 t0 t1 t2 t3 HX4 HO4 HR4 HOB4 HKV4 HDV4 HN4 HY4 HCV HNE
                have t0 := HN5.out.c0
                have t1 := HN5.out.c1
                have t2 := HN5.out.c2
                have t3 := HN5.out.c3
                have hcv := conv_str HY5.out s HS.out
                have hap := keyAppend HKV5.out (by rw [HN.out.1]; have := HNQ.out; have := HXq.out.pl; have := HXq.out.sm; omega) HZ5.out s
                rw [HN.out.1] at hap
                have HAP := Lib.hid hap
                clear hap
                go_upto_region 18 with (first
                  | (at_builtin; obtain ⟨A6, c6, w6, hrun, ho6, hk6⟩ := HAP.out; refine Lib.wpList_append_run_sl _ rfl (.tmp 70) (.tmp 74) 61 rfl _ _ rfl rfl hrun ?_; clear hrun; have HKV6 := Lib.hid ho6; have HK6 := Lib.hid hk6; clear ho6 hk6))
                have hb6 := HK6.out.below HZ5.out (fun b hb => (HKV5.out.lt b hb).2)
                have HX6 := Lib.hid (HX5.out.lowB hb6 (Nat.lt_succ_of_lt (Nat.lt_succ_of_lt HMW.out)))
                have HO6 := Lib.hid (HO5.out.lowB (hb6.mono (Nat.le_add_right _ 2)))
                have HR6 : Hid (RsB w.heap.size w6) := Lib.hid ((hb6.block _ (by omega)).trans HR5.out)
                have HOB6 := Lib.hid (HOB5.out.low hb6 (Nat.lt_succ_self _))
                have HDV6 := Lib.hid (HDV5.out.keepK HK6.out)
                have HZ6 := Lib.hid (Nat.le_trans HZ5.out HK6.out.size)
                have HN6 := Lib.hid (HN5.out.keep (HK6.out.block _ HW3.out (fun e => by have := HKL.out _ e; have := HWR.out; omega)))
                have HY6 := Lib.hid (HY5.out.keepF HF3.out (fun b hb hl => HK6.out.block b hl (fun e => by have := HKL.out _ e; omega)))
                have HW36 : Hid (w3.heap.size < w6.heap.size) := Lib.hid (Nat.lt_of_lt_of_le HW3.out HK6.out.size)
                clear hb6 t0 t1 t2 t3 hcv
                go_upto_region 19 with (first
                  | (go_at_call 35; refine (HVL.out _ HX6.out).mono ?_; (rintro r w7 ⟨d0, d1, d2, d3, d4, hrr, hob, hx7, ho7⟩); subst hrr; obtain ⟨k7, n7, A5, m5, e5, A61, m6, e6, A7, m7, e7, rfl, rfl, rfl, rfl, rfl⟩ := hob.shp; have HOX := Lib.hid hob; have HX7 := Lib.hid hx7; have HO7 := Lib.hid ho7; clear hob hx7 ho7))
                have hb8 := (Below.refl w7.heap.size w7).alloc (Nat.le_refl _) (.cells #[.int .i64 k7, .int .i64 n7, .slice A5 m5 e5, .slice A61 m6 e6, .slice A7 m7 e7] 27)
                have hn8 := heap_alloc_new w7 (.cells #[.int .i64 k7, .int .i64 n7, .slice A5 m5 e5, .slice A61 m6 e6, .slice A7 m7 e7] 27)
                obtain ⟨w8, hw8⟩ : ∃ w8, w7.alloc (.cells #[.int .i64 k7, .int .i64 n7, .slice A5 m5 e5, .slice A61 m6 e6, .slice A7 m7 e7] 27) = w8 := ⟨_, rfl⟩
                rw [hw8] at hb8 hn8
                rw [hw8]
                have c0 : w8.cell? ⟨w7.heap.size, 0, none⟩ = some (.int .i64 k7) := cell_of_row _ _ 0 _ _ (0, 0) hn8
                have cc1 : w8.cell? ⟨w7.heap.size, 1, none⟩ = some (.int .i64 n7) := cell_of_row _ _ 1 _ _ (0, 0) hn8
                have c2 : w8.cell? ⟨w7.heap.size, 2, none⟩ = some (.slice A5 m5 e5) := cell_of_row _ _ 2 _ _ (0, 0) hn8
                have cc3 : w8.cell? ⟨w7.heap.size, 3, none⟩ = some (.slice A61 m6 e6) := cell_of_row _ _ 3 _ _ (0, 0) hn8
                have c4 : w8.cell? ⟨w7.heap.size, 4, none⟩ = some (.slice A7 m7 e7) := cell_of_row _ _ 4 _ _ (0, 0) hn8
                have hm2 : m < w.heap.size + 2 := Nat.lt_succ_of_lt (Nat.lt_succ_of_lt HMW.out)
                have HX8 := Lib.hid (HX7.out.low hb8)
                have HO8 := Lib.hid ((HO6.out.trans HO7.out).trans (Only.of_below hb8 m))
                have HR8 := Lib.hid ((HR6.out.only HO7.out HMW.out).low hb8)
                have hob8 := HOB6.out.only HO7.out (Nat.ne_of_gt (Nat.lt_succ_of_lt HMW.out))
                have HOB8 := Lib.hid (hob8.low hb8 hob8.lt)
                have HDV8 := Lib.hid ((HDV6.out.keepO2 HO7.out hm2).low hb8)
                have HKV8 := Lib.hid ((HKV6.out.same fun b hb => HO7.out.block b (HKV6.out.lt b hb).1 (by have := (HKV6.out.lt b hb).2; omega)).low hb8)
                have hn68 := (HN6.out.only HO7.out (by have := HWR.out; have := HZ.out; omega)).below hb8 (Nat.lt_of_lt_of_le HW36.out HO7.out.size)
                have HY8 := Lib.hid ((HY6.out.keepF HF3.out (fun b hb hl => HO7.out.block b (Nat.lt_of_lt_of_le hl HK6.out.size) (by have := HZ.out; omega))).below hb8 (Nat.le_trans HK6.out.size HO7.out.size))
                have HOX8 := Lib.hid (ObR.keep (S' := fun b => b < w8.heap.size) (fun b hb => hb8.block b hb.2) (fun b hb => Nat.lt_of_lt_of_le hb.2 hb8.size) _ HOX.out)
                have HZ8 := Lib.hid (Nat.le_trans HZ6.out (Nat.le_trans HO7.out.size hb8.size))
                have t3 := hn68.c3
                have ob4 := HOB8.out.k4
                have HWS8 : Hid (W5.heap.size ≤ w8.heap.size) := Lib.hid (Nat.le_trans HK6.out.size (Nat.le_trans HO7.out.size hb8.size))
                clear hb8 hn8 hw8 hob8 hn68
                by_cases hE : V.e = 0
                · have hpr := HPR2.out
                  rw [if_neg (fun h => h hE)] at hpr
                  have HPR := Lib.hid hpr
                  have HPV := Lib.hid (HPQ.out hE)
                  obtain ⟨E, X, q5⟩ := V
                  dsimp only at hE HPR HPV HOX8 HX8
                  subst hE
                  have hwi := withC s X (dictF l .nil) (ownS noneT w8 (w.heap.size + 2) (.slice A6 (i + 1) c6)) (fun b => b < w8.heap.size) w8 AV cV _ _ _ _ _ HDV8.out.1 HDV8.out.2 HOX8.out (fun b hb => hb.2.1) (fun b hb => hb) HOK.out (by rw [HN.out.2.1]; have := HN.out.2.2; have := HNQ.out; have := HXq.out.pl; have := HXq.out.sm; omega)
                  rw [HN.out.2.1, ← dictF_snoc] at hwi
                  have hl2 : (dictF (l.snoc s X) .nil).len ≤ i + 1 := by
                    rw [dictF_snoc]
                    have := withE_len s X (dictF l .nil) (decide (X.kind = 0))
                    have := HN.out.2
                    omega
                  obtain ⟨M2, hM2⟩ : ∃ M2, (dictF (l.snoc s X) .nil).len = M2 := ⟨_, rfl⟩
                  rw [hM2] at hl2
                  have HWI := Lib.hid hwi
                  have HM2 := Lib.hid hM2
                  have HL2 := Lib.hid hl2
                  have hcv := conv_str HY8.out s HS.out
                  clear hwi hM2 hl2 hpr
                  go_wp2_with (first
                    | (go_at_call 90; refine HWI.out.mono ?_; (rintro r w9 ⟨A9, c9, rfl, hc9, hx9, hb9⟩); rw [HM2.out] at hc9 hx9 ⊢; have HX9 := Lib.hid (HX8.out.low hb9); have HO9 := Lib.hid (HO8.out.trans (Only.of_below hb9 m)); have HR9 := Lib.hid (HR8.out.low hb9); have HOB9 := Lib.hid (HOB8.out.low hb9 HOB8.out.lt); have HKV9 := Lib.hid (HKV8.out.low hb9); have HZ9 := Lib.hid (Nat.le_trans HZ8.out hb9.size); have HC9 := Lib.hid hc9; have HD9 := Lib.hid hx9; have f9 := HOB9.out.fr 4; have o9 := HOB9.out.k4; have HS9 := Lib.hid hb9.size; clear hc9 hx9 hb9))
                  have hset := (Only.refl (w.heap.size + 1) w9).set_ 4 (.slice A9 M2 c9)
                  have hzz : (w9.setCell ⟨w.heap.size + 1, 4, none⟩ (.slice A9 M2 c9)).heap.size = w9.heap.size := by simp [World.setCell]
                  have HX11 := Lib.hid (HX9.out.keepO hset (Nat.lt_succ_of_lt HMW.out) (by have := HZ9.out; omega))
                  have HO11 : Hid (Only m w (w9.setCell ⟨w.heap.size + 1, 4, none⟩ (.slice A9 M2 c9))) := Lib.hid (HO9.out.setN (Nat.le_succ _) 4 _)
                  have HR11 : Hid (RsB w.heap.size (w9.setCell ⟨w.heap.size + 1, 4, none⟩ (.slice A9 M2 c9))) := Lib.hid ((hset.block _ (by have := HZ9.out; omega) (by omega)).trans HR9.out)
                  have HOB11 := Lib.hid (HOB9.out.put4 (.slice A9 M2 c9))
                  have HZ11 : Hid (w.heap.size + 2 ≤ (w9.setCell ⟨w.heap.size + 1, 4, none⟩ (.slice A9 M2 c9)).heap.size) := Lib.hid (by rw [hzz]; exact HZ9.out)
                  have HKV11 := Lib.hid (HKV9.out.same fun b hb => hset.block b (HKV9.out.lt b hb).1 (by have := (HKV9.out.lt b hb).2; omega))
                  have HDV11 : Hid (DcV (w9.setCell ⟨w.heap.size + 1, 4, none⟩ (.slice A9 M2 c9)) (w.heap.size + 2) (.slice A6 (i + 1) c6) (dictF (l.snoc s X) .nil) A9 c9) := Lib.hid ⟨by rw [HM2.out]; exact HC9.out, fun h0 => by
                    obtain ⟨g, o, e, hg, hx⟩ := HD9.out (by rw [← HM2.out]; exact h0)
                    have key : ∀ b, (ownS noneT w8 (w.heap.size + 2) (.slice A6 (i + 1) c6) b ∨ w8.heap.size ≤ b) ∧ b < w9.heap.size → ownS noneT (w9.setCell ⟨w.heap.size + 1, 4, none⟩ (.slice A9 M2 c9)) (w.heap.size + 2) (.slice A6 (i + 1) c6) b := fun b hb => by
                      refine ⟨.inr ?_, by rw [hzz]; exact hb.2, fun e => ?_⟩
                      · rcases hb.1 with h | h
                        · exact h.1.elim (fun h => h.elim) id
                        · have := HZ8.out; omega
                      · rcases hb.1 with h | h
                        · exact h.2.2 e
                        · have := (HKV8.out.lt b e).1; omega
                    exact ⟨g, o, e, key g hg, EnsR.keep (fun b hb => hset.block b hb.2 (by have := (key b hb).1.elim (fun h => h.elim) id; omega)) key _ g o (key g hg) hg hx⟩⟩
                  clear hset hzz
                  go_roundw
                  case rel => exact ⟨A6, c6, A9, c9, i + 1, M2, q5, f, l.snoc s X, rfl, Lib.hid ⟨by rw [Ens.snoc_len, HN.out.1], HM2.out, HL2.out⟩, Lib.hid (by have := HNQ.out; have := HPV.out; have := HGT.out; omega), HX11, HO11, HR11, HOB11, Lib.hid (by rw [keysL_snoc]; exact HKV11.out), HDV11, Lib.hid (by have := HFF.out; have := HPV.out; have := HGT.out; have := HX11.out.pl; omega), HPR, HZ11⟩
                  case measure => have := HX11.out.pos; have := HXq.out.pos; have := HPV.out; have := HGT.out; have := HX11.out.pl; omega
                · have hpr := HPR2.out
                  rw [if_pos hE] at hpr
                  have HPR := Lib.hid hpr
                  obtain ⟨E, X, q5⟩ := V
                  dsimp only at hE HPR HX8
                  have hEb : (E == 0) = false := beq_eq_false_iff_ne.2 hE
                  have HF := Lib.hid (HR8.out.finR (Nat.le_refl _) (ob_nul _ _) HX8.out HO8.out HMW.out)
                  obtain ⟨r0, r1, r2, r3, r4, r5⟩ := zero_cells HR8.out
                  clear hE hpr
                  go_wp2_with fail
                  refine bodyPost_ret (results_cell_row_tmp rfl _ _ w.heap.size 27 _ (0, 0) _ rfl HF.out.row Tryz.underlying27 rfl (by kernel_rfl) _ rfl) rfl ?_
                  rw [← HPR.out]
                  exact ⟨_, _, _, _, _, rfl, HF.out.ob, HF.out.px, HF.out.on⟩
          · rw [if_pos (.inl h4)] at hpr
            have h4b : (k == 4) = false := beq_eq_false_iff_ne.2 h4
            have HPR := Lib.hid hpr
            clear hpr hpq hvl hgt h4 h0
            go_upto_region 4 with (first
              | (go_at_call 57; refine HTK.out.mono ?_; (rintro r w3 ⟨A3, l3, c3, rfl, hx3, ho3, hy3, hf3⟩); have HX3 := Lib.hid hx3; have HO3 := Lib.hid ho3; have HY3 := Lib.hid hy3; have HF3 := Lib.hid hf3; clear hx3 ho3 hy3 hf3))
            have hn4 := Bx.new w3 104 (.int .i64 k) (.int .i64 bp) (.int .i64 v) (.slice A3 l3 c3)
            have hb4 := (Below.refl w3.heap.size w3).alloc (Nat.le_refl _) (.cells #[.int .i64 k, .int .i64 bp, .int .i64 v, .slice A3 l3 c3] 104)
            obtain ⟨w4, hw4⟩ : ∃ w4, w3.alloc (.cells #[.int .i64 k, .int .i64 bp, .int .i64 v, .slice A3 l3 c3] 104) = w4 := ⟨_, rfl⟩
            rw [hw4] at hn4 hb4
            rw [hw4]
            have t0 := hn4.c0
            have t1 := hn4.c1
            have t2 := hn4.c2
            have t3 := hn4.c3
            have HN4 := Lib.hid hn4
            have HX4 := Lib.hid (HX3.out.low hb4)
            have ho4 := HO3.out.trans (Only.of_below hb4 m)
            have HO4 := Lib.hid (HOq.out.trans ho4)
            have HY4 := Lib.hid ((HY3.out.below hb4 (Nat.le_refl _)).more hb4.size)
            have HR4 := Lib.hid (HRS.out.only ho4 HMW.out)
            have HOB4 := Lib.hid (HOB.out.only ho4 (Nat.ne_of_gt (Nat.lt_succ_of_lt HMW.out)))
            have HQ4 := Lib.hid ho4
            have HKV4 := Lib.hid (HKV.out.same fun b hb => ho4.block b (HKV.out.lt b hb).1 (by have := (HKV.out.lt b hb).2; have := HMW.out; omega))
            have HDV4 := Lib.hid (HDV.out.keepO2 ho4 (Nat.lt_succ_of_lt (Nat.lt_succ_of_lt HMW.out)))
            clear hn4 hb4 hw4 ho4
            go_wp2_with (first
              | (go_at_call 58; refine (HST.out _ HX4.out).mono ?_; (rintro r w5 ⟨d0, d1, d2, d3, d4, hrr, hob, hx5, ho5⟩); (try dsimp only [noR] at hrr hob hx5); subst hrr; obtain ⟨k5, n5, A5, m5, e5, A6, m6, e6, A7, m7, e7, rfl, rfl, rfl, rfl, rfl⟩ := hob.shp; have HRF := Lib.hid (RsB.only HR4.out ho5 HMW.out); obtain ⟨r0, r1, r2, r3, r4, r5⟩ := zero_cells HRF.out; have HF := Lib.hid (RsB.finRN (w := w) HR4.out HRF.out (Nat.le_refl _) hob hx5 (Only.trans HO4.out ho5) HMW.out); clear hob hx5 ho5))
            refine bodyPost_ret (results_cell_row_tmp rfl _ _ w.heap.size 27 _ (0, 0) _ rfl HF.out.row Tryz.underlying27 rfl (by kernel_rfl) _ rfl) rfl ?_
            rw [← HPR.out]
            exact ⟨_, _, _, _, _, rfl, HF.out.ob, HF.out.px, HF.out.on⟩
    · rw [if_pos he] at hpr
      have HPR := Lib.hid hpr
      have heb : (e == 0) = false := beq_eq_false_iff_ne.2 he
      clear hpr hpq hvl hgt he
      go_upto_region 4 with (first
        | (go_at_call 57; refine HTK.out.mono ?_; (rintro r w3 ⟨A3, l3, c3, rfl, hx3, ho3, hy3, hf3⟩); have HX3 := Lib.hid hx3; have HO3 := Lib.hid ho3; have HY3 := Lib.hid hy3; have HF3 := Lib.hid hf3; clear hx3 ho3 hy3 hf3))
      have hn4 := Bx.new w3 104 (.int .i64 k) (.int .i64 bp) (.int .i64 v) (.slice A3 l3 c3)
      have hb4 := (Below.refl w3.heap.size w3).alloc (Nat.le_refl _) (.cells #[.int .i64 k, .int .i64 bp, .int .i64 v, .slice A3 l3 c3] 104)
      obtain ⟨w4, hw4⟩ : ∃ w4, w3.alloc (.cells #[.int .i64 k, .int .i64 bp, .int .i64 v, .slice A3 l3 c3] 104) = w4 := ⟨_, rfl⟩
      rw [hw4] at hn4 hb4
      rw [hw4]
      have t0 := hn4.c0
      have t1 := hn4.c1
      have t2 := hn4.c2
      have t3 := hn4.c3
      have HN4 := Lib.hid hn4
      have HX4 := Lib.hid (HX3.out.low hb4)
      have ho4 := HO3.out.trans (Only.of_below hb4 m)
      have HO4 := Lib.hid (HOq.out.trans ho4)
      have HY4 := Lib.hid ((HY3.out.below hb4 (Nat.le_refl _)).more hb4.size)
      have HR4 := Lib.hid (HRS.out.only ho4 HMW.out)
      have HOB4 := Lib.hid (HOB.out.only ho4 (Nat.ne_of_gt (Nat.lt_succ_of_lt HMW.out)))
      have HQ4 := Lib.hid ho4
      have HKV4 := Lib.hid (HKV.out.same fun b hb => ho4.block b (HKV.out.lt b hb).1 (by have := (HKV.out.lt b hb).2; have := HMW.out; omega))
      have HDV4 := Lib.hid (HDV.out.keepO2 ho4 (Nat.lt_succ_of_lt (Nat.lt_succ_of_lt HMW.out)))
      clear hn4 hb4 hw4 ho4
      have HF := Lib.hid (HR4.out.finR (Nat.le_refl _) (ob_nul _ _) HX4.out HO4.out HMW.out)
      obtain ⟨r0, r1, r2, r3, r4, r5⟩ := zero_cells HR4.out
      go_wp2_with fail
      refine bodyPost_ret (results_cell_row_tmp rfl _ _ w.heap.size 27 _ (0, 0) _ rfl HF.out.row Tryz.underlying27 rfl (by kernel_rfl) _ rfl) rfl ?_
      rw [← HPR.out]
      exact ⟨_, _, _, _, _, rfl, HF.out.ob, HF.out.px, HF.out.on⟩
end

section
open Go.RowKit
set_option linter.unusedVariables false
set_option maxRecDepth 100000
/-- value, with so much fuel. -/
def ValC (m h g : Nat) (A : Option Addr) (n c d : Nat) (zs : List Int) (f : Nat) : Prop :=
  ∀ (dd : Nat) (w : World) (p : Nat), dd < 1000 → PX w m h g A n c d zs p → n - p < f → Calls Tryz.prog 34 #[.pointer (some ⟨m, 0, none⟩), .int .i64 dd] w (VaP m h g A n c d zs w (parF zs f .val dd p))
set_option maxHeartbeats 2000000 in
theorem valueC {m h g n c d : Nat} {A : Option Addr} {zs : List Int} (f : Nat) (IH : ItsC m h g A n c d zs f ∧ EnsC12 m h g A n c d zs f) : ValC m h g A n c d zs (f + 1) := by
  intro dd w p hdd x hf
  have hx0 := x.alloc (.cells #[.int .i64 0, .int .i64 0, .slice none 0 0, .slice none 0 0, .slice none 0 0] 27)
  have ho0 := (Only.refl g w).alloc (.cells #[.int .i64 0, .int .i64 0, .slice none 0 0, .slice none 0 0, .slice none 0 0] 27)
  have hr0 := RsB.new w
  obtain ⟨W0, hW0⟩ : ∃ W0, w.alloc (.cells #[.int .i64 0, .int .i64 0, .slice none 0 0, .slice none 0 0, .slice none 0 0] 27) = W0 := ⟨_, rfl⟩
  rw [hW0] at hx0 ho0 hr0
  have htk := ptkC hx0
  have hbg : ∀ W A' l' c', PX W m h g A n c d zs (tokT zs p).q → (tokT zs p).e = 0 → Byt W W.heap.size A' l' c' (tokT zs p).b → Calls Tryz.prog 56 #[.pointer (some ⟨m, 0, none⟩), tkA (tokT zs p).k (blkP zs p) (tokT zs p).v A' l' c', .int .i64 dd] W (VaP m h g A n c d zs W (begR zs (fun d q => parF zs f (.its .nil) d q) (fun d q => parF zs f (.ens .nil) d q) (tokT zs p) (blkP zs p) dd)) := fun W A' l' c' hW h0 hy => begunC f IH hW dd A' l' c' hdd x.lx.pl hf h0 hy
  have HWB : Hid (w.heap.size ≤ w.heap.size) := Lib.hid (Nat.le_refl _)
  have HLT : Hid (m < w.heap.size ∧ h < w.heap.size ∧ g < w.heap.size) := Lib.hid ⟨x.lt, x.lx.lt, x.lx.cu.lt⟩
  have k0 := hx0.k0
  have HO0 := Lib.hid ho0
  have HR0 := Lib.hid hr0
  have HW0 := Lib.hid hW0
  have HNO := Lib.hid (fun W => noneC W)
  rw [parF]
  obtain ⟨B, hB⟩ : ∃ B, begR zs (fun d q => parF zs f (.its .nil) d q) (fun d q => parF zs f (.ens .nil) d q) (tokT zs p) (blkP zs p) dd = B := ⟨_, rfl⟩
  rw [hB] at hbg ⊢
  obtain ⟨T, hT⟩ : ∃ T, tokT zs p = T := ⟨_, rfl⟩
  obtain ⟨bp, hbp⟩ : ∃ bp, blkP zs p = bp := ⟨_, rfl⟩
  rw [hT] at hbg htk ⊢
  rw [hbp] at hbg htk
  obtain ⟨e, k, v, b, q2⟩ := T
  dsimp only at hbg htk ⊢
  have HTK := Lib.hid htk
  have HBG := Lib.hid hbg
  clear hx0 ho0 hr0 hW0 htk hbg x hf hdd IH hB hT hbp
  by_cases he : e = 0
  · subst he
    rw [if_neg (by decide)]
    obtain ⟨E, X, q5⟩ := B
    go_enter Tryz.func34, Tryz.ntmps34
    go_upto_region 1 with fail
    rw [HW0.out]
    go_upto_region 2 with (first
      | (go_at_call 54; refine HTK.out.mono ?_; (rintro r w3 ⟨A3, l3, c3, rfl, hx3, ho3, hy3, hf3⟩); have HX3 := Lib.hid hx3; have HO3 := Lib.hid ho3; have HY3 := Lib.hid hy3; clear hx3 ho3 hy3 hf3))
    have hn4 := Bx.new w3 99 (.int .i64 k) (.int .i64 bp) (.int .i64 v) (.slice A3 l3 c3)
    have hx4 := HX3.out.alloc (.cells #[.int .i64 k, .int .i64 bp, .int .i64 v, .slice A3 l3 c3] 99)
    have ho4 := HO3.out.alloc (.cells #[.int .i64 k, .int .i64 bp, .int .i64 v, .slice A3 l3 c3] 99)
    have hy4 := HY3.out.alloc (Nat.le_refl _) (.cells #[.int .i64 k, .int .i64 bp, .int .i64 v, .slice A3 l3 c3] 99)
    obtain ⟨w4, hw4⟩ : ∃ w4, w3.alloc (.cells #[.int .i64 k, .int .i64 bp, .int .i64 v, .slice A3 l3 c3] 99) = w4 := ⟨_, rfl⟩
    have hs4 : w3.heap.size ≤ w4.heap.size := by rw [← hw4]; simp
    rw [hw4] at hn4 hx4 ho4 hy4
    rw [hw4]
    have t0 := hn4.c0
    have t1 := hn4.c1
    have t2 := hn4.c2
    have t3 := hn4.c3
    have HX4 := Lib.hid hx4
    have HO4 := Lib.hid (HO0.out.trans ho4)
    have HY4 := Lib.hid (hy4.more hs4)
    have HR4 := Lib.hid (HR0.out.only ho4 HLT.out.2.2)
    clear hn4 hx4 ho4 hy4 hw4 hs4
    go_wp2_with (first
      | (go_at_call 56; refine (HBG.out _ _ _ _ HX4.out (by trivial) HY4.out).mono ?_; (rintro r w5 ⟨d0, d1, d2, d3, d4, hrr, hob, hx5, ho5⟩); (try dsimp only at hrr hob hx5); subst hrr; obtain ⟨k5, n5, A5, m5, e5, A6, m6, e6, A7, m7, e7, rfl, rfl, rfl, rfl, rfl⟩ := hob.shp; have HRF := Lib.hid (HR4.out.only ho5 HLT.out.2.2); obtain ⟨r0, r1, r2, r3, r4, r5⟩ := zero_cells HRF.out; have HF := Lib.hid (RsB.finN (w := w) HR4.out HRF.out HWB.out hob hx5 (HO4.out.trans ho5) HLT.out); clear hob hx5 ho5))
    refine bodyPost_ret (results_cell_row_tmp rfl _ _ w.heap.size 27 _ (0, 0) _ rfl HF.out.row Tryz.underlying27 rfl (by kernel_rfl) _ rfl) rfl ?_
    exact ⟨_, _, _, _, _, rfl, HF.out.ob, HF.out.px, HF.out.on⟩
  · rw [if_pos he]
    have heb : (e == 0) = false := beq_eq_false_iff_ne.2 he
    clear he HBG
    go_enter Tryz.func34, Tryz.ntmps34
    go_upto_region 1 with fail
    rw [HW0.out]
    go_upto_region 2 with (first
      | (go_at_call 54; refine HTK.out.mono ?_; (rintro r w3 ⟨A3, l3, c3, rfl, hx3, ho3, hy3, hf3⟩); have HX3 := Lib.hid hx3; have HO3 := Lib.hid ho3; clear hx3 ho3 hy3 hf3))
    have hx4 := HX3.out.alloc (.cells #[.int .i64 k, .int .i64 bp, .int .i64 v, .slice A3 l3 c3] 99)
    have ho4 := HO3.out.alloc (.cells #[.int .i64 k, .int .i64 bp, .int .i64 v, .slice A3 l3 c3] 99)
    obtain ⟨w4, hw4⟩ : ∃ w4, w3.alloc (.cells #[.int .i64 k, .int .i64 bp, .int .i64 v, .slice A3 l3 c3] 99) = w4 := ⟨_, rfl⟩
    rw [hw4] at hx4 ho4
    rw [hw4]
    have HXC := Lib.hid hx4
    have HOC := Lib.hid (HO0.out.trans ho4)
    have HRC := Lib.hid (HR0.out.only ho4 HLT.out.2.2)
    clear hx4 ho4 hw4
    go_wp2_with (first
      | (go_at_call 26; refine (HNO.out _).mono ?_; (rintro r w6 ⟨rfl, hbl⟩); have HRF := Lib.hid (HRC.out.low hbl); have HXF := Lib.hid (HXC.out.low hbl); have HOF := Lib.hid (HOC.out.trans (Only.of_below hbl g)); obtain ⟨r0, r1, r2, r3, r4, r5⟩ := zero_cells HRF.out; clear hbl))
    have HF := Lib.hid (HRF.out.fin HWB.out (ob_nul _ _) HXF.out HOF.out HLT.out.1 HLT.out.2.1 HLT.out.2.2)
    refine bodyPost_ret (results_cell_row_tmp rfl _ _ w.heap.size 27 _ (0, 0) _ rfl HF.out.row Tryz.underlying27 rfl (by kernel_rfl) _ rfl) rfl ?_
    exact ⟨_, _, _, _, _, rfl, HF.out.ob, HF.out.px, HF.out.on⟩
end
end Go.Proofs.YtnlpdnimfaipmaaGreat
