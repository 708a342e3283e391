/- Chapter 10: the project's kept: those entries of which a function says yes. Chapter 10: the project's lasts: the last entry of each key, by rising keys. -/
import Derived.Test.YtkloipjkialakaaRi10
namespace Go.Proofs.Ytkloipjkialakaa
open Go.RowKit Go.Sort
set_option linter.unusedVariables false
set_option maxRecDepth 100000

def keepL (p : Nat → Bool) : Nat → List Rw → List Rw
  | _, [] => []
  | i, r :: rs => if p i = true then r :: keepL p (i + 1) rs else keepL p (i + 1) rs
theorem keepL_len (p : Nat → Bool) : ∀ (i : Nat) (rs : List Rw), (keepL p i rs).length ≤ rs.length
  | _, [] => Nat.le_refl _
  | i, r :: rs => by
    have := keepL_len p (i + 1) rs
    rw [keepL]; split <;> simp <;> omega
/-- One more row, out of a literal. -/
theorem own_lit6 {w : World} {base n : Nat} {v : Value} {ks : List Rw} (h : w.ownsRow base 32 6 v n (flatR ks)) (hn : ks.length = n) (r : Rw) (hl : n ≤ 1000000000) (hbase : base ≤ w.heap.size) :
    ∃ A c w', (Builtin.append_ #[25, 25] 25 #[v, .slice (some ⟨w.heap.size, 0, none⟩) 1 1]).run Try.prog (w.alloc (.cells #[.string r.s, .int .i64 r.k, .int .i64 r.n, .slice r.A2 r.m2 r.c2, .slice r.A3 r.m3 r.c3, .slice r.A4 r.m4 r.c4] 32)) = .ok (.slice A (n + 1) c) w' ∧ w'.ownsRow base 32 6 (.slice A (n + 1) c) (n + 1) (flatR (ks ++ [r])) ∧ KeepX v w (.slice A (n + 1) c) w' := by
  obtain ⟨i0, hi, hz0, hz1, hz2⟩ := info_parts infoE
  have hb1 : Below w.heap.size w (w.alloc (.cells #[.string r.s, .int .i64 r.k, .int .i64 r.n, .slice r.A2 r.m2 r.c2, .slice r.A3 r.m3 r.c3, .slice r.A4 r.m4 r.c4] 32)) := (Below.refl _ _).alloc (Nat.le_refl _) _
  have hnw := heap_alloc_new w (.cells #[.string r.s, .int .i64 r.k, .int .i64 r.n, .slice r.A2 r.m2 r.c2, .slice r.A3 r.m3 r.c3, .slice r.A4 r.m4 r.c4] 32)
  have h1 := row_sameN h (fun b hb => hb1.block b (row_ltN h b hb).1)
  obtain ⟨v', w', hr, ho, hg, _, hat⟩ := run_append_own_at (P := Try.prog) _ base 25 25 32 i0 _ 6 104 Try.underlying25 hi hz0 hz1 hz2 rfl (by omega) v n _ h1 ⟨w.heap.size, 0, none⟩ 1 1 (encR r) (encR_len r) (fun j u hj => by
    have e : (⟨w.heap.size, 0, none⟩ : Addr).add j = ⟨w.heap.size, 0 + j, none⟩ := by unfold Addr.add; split <;> simp_all
    rw [e, cell_of_row _ _ _ _ _ (0, 0) hnw, Nat.zero_add]
    rw [← hj]; simp [encR]) (encR_one r) (by simp only [maxLen]; omega) (by omega) (Nat.le_trans hbase hb1.size)
  obtain ⟨A, c, rfl⟩ := own_slice ho
  refine ⟨A, c, w', hr, by rw [flatR_app]; simpa [flatR] using ho, (KeepX.ofBelow hb1).trans ⟨hg.os, hg.tape, hg.output, hg.size, fun k hk hne => hg.block k hk (fun e => hne e.symm), fun b hb => ?_⟩⟩
  rcases hat with h2 | h2
  · exact .inl (by rw [← h2, hb])
  · rw [hb] at h2; injection h2 with h2; exact .inr (by omega)
/-- What is asked of the function: 'Inv i' ahead of entry i; of what was there it changes block Z alone. -/
def KeepOk (fn : Nat) (lb : Array Value) (rs : List Rw) (p : Nat → Bool) (Inv : Nat → World → Prop) (Z : Nat) : Prop :=
  ∀ i r W, rs[i]? = some r → Inv i W → Calls Try.prog fn (#[.agg #[.string r.s, .int .i64 r.k, .int .i64 r.n, .slice r.A2 r.m2 r.c2, .slice r.A3 r.m3 r.c3, .slice r.A4 r.m4 r.c4]] ++ lb) W fun e w' => e = .returned (.bool (p i)) ∧ Inv (i + 1) w' ∧ Only Z W w'
def KepP (rs : List Rw) (p : Nat → Bool) (Inv : Nat → World → Prop) (Z : Nat) (w : World) (e : Ending) (w' : World) : Prop :=
  ∃ A c, e = .returned (.slice A (keepL p 0 rs).length c) ∧ w'.ownsRow w.heap.size 32 6 (.slice A (keepL p 0 rs).length c) (keepL p 0 rs).length (flatR (keepL p 0 rs)) ∧ Inv rs.length w' ∧ Only Z w w'
theorem keepL_app (p : Nat → Bool) : ∀ (a b : List Rw) (i : Nat), keepL p i (a ++ b) = keepL p i a ++ keepL p (i + a.length) b
  | [], b, i => rfl
  | r :: a, b, i => by
    rw [List.cons_append, keepL, keepL, keepL_app p a b (i + 1), List.length_cons, show i + 1 + a.length = i + (a.length + 1) by omega]
    split <;> rfl
set_option maxHeartbeats 4000000 in
theorem keptC (fn : Nat) (lb : Array Value) (rs : List Rw) (p : Nat → Bool) (Inv : Nat → World → Prop) (Z : Nat) (A : Option Addr) (c : Nat) (w : World) (eg : ∀ args w, (callFunc fn args).run Try.prog w = .ok (.enter fn args) w) (hK : KeepOk fn lb rs p Inv Z)
    (hst : ∀ i W W', Inv i W → W.heap.size ≤ W'.heap.size → (∀ b, b < w.heap.size → W'.heap[b]? = W.heap[b]?) → Inv i W') (hI : Inv 0 w) (hA : RowsV w A rs) (hZ : Z < w.heap.size) (hZA : 0 < rs.length → ∀ g o, A = some ⟨g, o, none⟩ → g ≠ Z) (hcap : rs.length ≤ c) (hlen : rs.length ≤ 1000000000) :
    Calls Try.prog 63 #[.slice A rs.length c, .func (.func fn) #[] lb] w (KepP rs p Inv Z w) := by
  obtain ⟨N, hN⟩ : ∃ N, rs.length = N := ⟨_, rfl⟩
  rw [hN] at hlen hcap ⊢
  have HN := Lib.hid hN
  have HK := Lib.hid hK
  have HST := Lib.hid hst
  have HI := Lib.hid hI
  have HA := Lib.hid hA
  have HZA := Lib.hid hZA
  have HZ := Lib.hid hZ
  clear hK hst hI hA hZA hN hZ
  go_enter Try.func63, Try.ntmps63
  go_wp2_with fail
  go_loopw [5, 10] (fun sv iv wr => ∃ (i cW : Nat) (AW : Option Addr), i ≤ N ∧ iv = .int .i64 i ∧ sv = .slice AW (keepL p 0 (rs.take i)).length cW ∧ Hid (wr.ownsRow w.heap.size 32 6 (.slice AW (keepL p 0 (rs.take i)).length cW) (keepL p 0 (rs.take i)).length (flatR (keepL p 0 (rs.take i)))) ∧ Hid (Inv i wr) ∧ Hid (Only Z w wr)) (fun _ iv _ => N - (intOf iv).toNat)
  case atStart => exact ⟨0, 0, none, Nat.zero_le _, rfl, rfl, Lib.hid ⟨rfl, .inl ⟨rfl, rfl⟩⟩, HI, Lib.hid (Only.refl _ _)⟩
  case round =>
    obtain ⟨i, cW, AW, hi, rfl, rfl, HOW, HIN, HON⟩ := hrel
    by_cases hlt : i < N
    · have hlz : (i : Int) < (N : Int) := by omega
      obtain ⟨r, hr⟩ : ∃ r, rs[i]? = some r := ⟨rs[i]'(by rw [HN.out]; exact hlt), List.getElem?_eq_getElem _⟩
      obtain ⟨g, o, eA, hg, hc⟩ := HA.out (by rw [HN.out]; omega)
      have hgZ := HZA.out (by rw [HN.out]; omega) g o eA
      subst eA
      obtain ⟨k0, k1, k2, k3, k4, k5⟩ := hc.six i r hr
      have e := fun j => HON.out.cell (p := ⟨g, j, none⟩) hg hgZ
      have x0 := (e _).trans k0
      have x1 := (e _).trans k1
      have x2 := (e _).trans k2
      have x3 := (e _).trans k3
      have x4 := (e _).trans k4
      have x5 := (e _).trans k5
      have HR := Lib.hid hr
      have HTK : Hid (keepL p 0 (rs.take (i + 1)) = if p i = true then keepL p 0 (rs.take i) ++ [r] else keepL p 0 (rs.take i)) := Lib.hid (by
        have hil : i < rs.length := by rw [HN.out]; exact hlt
        rw [List.take_succ_eq_append_getElem hil, keepL_app, List.length_take_of_le (Nat.le_of_lt hil), Nat.zero_add]
        rw [List.getElem?_eq_getElem hil] at hr
        injection hr with hr
        rw [hr, keepL, keepL]
        split <;> simp)
      have HKL : Hid ((keepL p 0 (rs.take i)).length ≤ i) := Lib.hid (by have := keepL_len p 0 (rs.take i); simp at this; omega)
      obtain ⟨KL, hKL⟩ : ∃ KL, keepL p 0 (rs.take i) = KL := ⟨_, rfl⟩
      rw [hKL] at HOW HTK HKL ⊢
      have hb1 := (Below.refl wr.heap.size wr).alloc (Nat.le_refl _) (.cells #[.string r.s, .int .i64 r.k, .int .i64 r.n, .slice r.A2 r.m2 r.c2, .slice r.A3 r.m3 r.c3, .slice r.A4 r.m4 r.c4] 32)
      have hn1 := heap_alloc_new wr (.cells #[.string r.s, .int .i64 r.k, .int .i64 r.n, .slice r.A2 r.m2 r.c2, .slice r.A3 r.m3 r.c3, .slice r.A4 r.m4 r.c4] 32)
      have hs1 : (wr.alloc (.cells #[.string r.s, .int .i64 r.k, .int .i64 r.n, .slice r.A2 r.m2 r.c2, .slice r.A3 r.m3 r.c3, .slice r.A4 r.m4 r.c4] 32)).heap.size = wr.heap.size + 1 := by simp
      clear hr hc hg hgZ k0 k1 k2 k3 k4 k5 e hKL
      obtain ⟨W1, hW1⟩ : ∃ W1, wr.alloc (.cells #[.string r.s, .int .i64 r.k, .int .i64 r.n, .slice r.A2 r.m2 r.c2, .slice r.A3 r.m3 r.c3, .slice r.A4 r.m4 r.c4] 32) = W1 := ⟨_, rfl⟩
      rw [hW1] at hb1 hn1 hs1
      have HOZ : Hid (Z < wr.heap.size ∧ w.heap.size ≤ wr.heap.size) := Lib.hid ⟨by have := HZ.out; have := HON.out.size; omega, HON.out.size⟩
      have HC := Lib.hid (HK.out i r W1 HR.out (HST.out i wr W1 HIN.out hb1.size (fun b hb => hb1.block b (by have := HON.out.size; omega))))
      have HOW1 := Lib.hid (row_sameN HOW.out (w' := W1) (fun b hb => hb1.block b (row_ltN HOW.out b hb).1))
      have HON1 := Lib.hid (HON.out.trans (Only.of_below hb1 Z))
      have HE1 : Hid (∀ W2, Only Z W1 W2 → W2.cell? ⟨wr.heap.size, 0, none⟩ = some (.string r.s) ∧ W2.cell? ⟨wr.heap.size, 1, none⟩ = some (.int .i64 r.k) ∧ W2.cell? ⟨wr.heap.size, 2, none⟩ = some (.int .i64 r.n) ∧ W2.cell? ⟨wr.heap.size, 3, none⟩ = some (.slice r.A2 r.m2 r.c2) ∧ W2.cell? ⟨wr.heap.size, 4, none⟩ = some (.slice r.A3 r.m3 r.c3) ∧ W2.cell? ⟨wr.heap.size, 5, none⟩ = some (.slice r.A4 r.m4 r.c4)) := Lib.hid (fun W2 h2 => by
        have h3 := (h2.block wr.heap.size (by omega) (by have := HOZ.out.1; omega)).trans hn1
        exact ⟨cell_of_row _ _ 0 _ _ (0, 0) h3, cell_of_row _ _ 1 _ _ (0, 0) h3, cell_of_row _ _ 2 _ _ (0, 0) h3, cell_of_row _ _ 3 _ _ (0, 0) h3, cell_of_row _ _ 4 _ _ (0, 0) h3, cell_of_row _ _ 5 _ _ (0, 0) h3⟩)
      have HS1 : Hid (wr.heap.size ≤ W1.heap.size) := Lib.hid (by omega)
      have HWE := Lib.hid hW1
      clear hb1 hn1 hs1 HOW HON HIN hW1
      go_upto_region 5 with fail
      rw [HWE.out]
      clear x0 x1 x2 x3 x4 x5
      obtain ⟨y0, y1, y2, y3, y4, y5⟩ := HE1.out W1 (Only.refl _ _)
      cases hp : p i with
      | true =>
        rw [hp] at HC HTK
        have hTK := HTK.out
        rw [if_pos rfl] at hTK
        have HTK2 := Lib.hid hTK
        clear hTK HTK hp
        go_wp2_with (first
          | (go_at_fn fn; (with_reducible refine HC.out.mono ?_); (rintro e w2 ⟨rfl, hi2, ho2⟩); have HI2 := Lib.hid hi2; have HO2 := Lib.hid (HON1.out.trans ho2); have HOW2 := Lib.hid (row_sameN HOW1.out (w' := w2) (fun b hb => ho2.block b (row_ltN HOW1.out b hb).1 (by have := (row_ltN HOW1.out b hb).2; have := HZ.out; omega))); (obtain ⟨z0, z1, z2, z3, z4, z5⟩ := HE1.out w2 ho2); have HSZ2 := Lib.hid (Nat.le_trans HS1.out ho2.size); have HAP := Lib.hid (own_lit6 HOW2.out rfl r (by have := HKL.out; omega) (Nat.le_trans HOZ.out.2 (Nat.le_trans HS1.out ho2.size))); clear y0 y1 y2 y3 y4 y5 hi2 ho2 HC)
          | (at_builtin; obtain ⟨A6, c6, w6, hrun, ho6, hk6⟩ := HAP.out; refine Lib.wpList_append_run_sl _ rfl (.tmp 17) (.tmp 19) 25 rfl _ _ rfl rfl hrun ?_; clear hrun; have HO6 := Lib.hid ho6; have HK6 := Lib.hid hk6; clear ho6 hk6))
        go_roundw
        case rel =>
          have hown := fun b hb => row_ltN HOW2.out b hb
          refine ⟨i + 1, c6, A6, by omega, by go_num, by rw [HTK2.out, List.length_append]; rfl, Lib.hid (by rw [HTK2.out, List.length_append]; exact HO6.out), Lib.hid (HST.out (i + 1) w2 w6 HI2.out HK6.out.size (fun b hb => HK6.out.block b (by have := HO2.out.size; omega) (fun e => by have := (hown b e).2; omega))), Lib.hid ⟨HK6.out.os.trans HO2.out.os, HK6.out.tape.trans HO2.out.tape, HK6.out.output.trans HO2.out.output, Nat.le_trans HO2.out.size HK6.out.size, fun b hb hne => (HK6.out.block b (by have := HO2.out.size; omega) (fun e => by have := (hown b e).2; omega)).trans (HO2.out.block b hb hne)⟩⟩
        case measure => simp [intOf]; omega
      | false =>
        rw [hp] at HC HTK
        have hTK := HTK.out
        rw [if_neg (by simp)] at hTK
        have HTK2 := Lib.hid hTK
        clear hTK HTK hp
        go_wp2_with (go_at_fn fn; (with_reducible refine HC.out.mono ?_); (rintro e w2 ⟨rfl, hi2, ho2⟩); have HI2 := Lib.hid hi2; have HO2 := Lib.hid (HON1.out.trans ho2); have HOW2 := Lib.hid (row_sameN HOW1.out (w' := w2) (fun b hb => ho2.block b (row_ltN HOW1.out b hb).1 (by have := (row_ltN HOW1.out b hb).2; have := HZ.out; omega))); clear y0 y1 y2 y3 y4 y5 hi2 ho2 HC)
        go_roundw
        case rel => exact ⟨i + 1, cW, AW, by omega, by go_num, by rw [HTK2.out], by rw [HTK2.out]; exact HOW2, HI2, HO2⟩
        case measure => simp [intOf]; omega
    · obtain rfl : N = i := by omega
      have hT : rs.take N = rs := List.take_of_length_le (by rw [HN.out]; exact Nat.le_refl _)
      rw [hT] at HOW ⊢
      go_wp2_with fail
      go_ret
      exact ⟨AW, cW, rfl, HOW.out, by rw [HN.out]; exact HIN.out, HON.out⟩
/-- The fields that a kind uses. -/
def usesZ (k : Int) : Int := if k = 1 ∨ k = 2 ∨ k = 3 ∨ k = 9 then 1 else if k = 4 ∨ k = 5 then 2 else if k = 6 then 4 else if k = 7 then 8 else if k = 8 then 10 else 0
theorem usesC (k : Int) (w : World) : Calls Try.prog 69 #[.int .i64 k] w fun e w' => e = .returned (.int .i64 (usesZ k)) ∧ w = w' := by
  by_cases h : k = 1 ∨ k = 2 ∨ k = 3 ∨ k = 4 ∨ k = 5 ∨ k = 6 ∨ k = 7 ∨ k = 8 ∨ k = 9
  · rcases h with rfl | rfl | rfl | rfl | rfl | rfl | rfl | rfl | rfl
    all_goals
      go_enter Try.func69, Try.ntmps69
      go_wp2
      go_ret
      exact ⟨rfl, rfl⟩
  · have e : usesZ k = 0 := by unfold usesZ; rw [if_neg (by omega), if_neg (by omega), if_neg (by omega), if_neg (by omega), if_neg (by omega)]
    rw [e]
    have h1 : (k == 1) = false := beq_eq_false_iff_ne.2 (by omega)
    have h2 : (k == 2) = false := beq_eq_false_iff_ne.2 (by omega)
    have h3 : (k == 3) = false := beq_eq_false_iff_ne.2 (by omega)
    have h4 : (k == 4) = false := beq_eq_false_iff_ne.2 (by omega)
    have h5 : (k == 5) = false := beq_eq_false_iff_ne.2 (by omega)
    have h6 : (k == 6) = false := beq_eq_false_iff_ne.2 (by omega)
    have h7 : (k == 7) = false := beq_eq_false_iff_ne.2 (by omega)
    have h8 : (k == 8) = false := beq_eq_false_iff_ne.2 (by omega)
    have h9 : (k == 9) = false := beq_eq_false_iff_ne.2 (by omega)
    clear h e
    go_enter Try.func69, Try.ntmps69
    go_wp2
    go_ret
    exact ⟨rfl, rfl⟩
def nullB (k : Int) : Bool := decide (usesZ k = 0)
theorem nullC (k : Int) (c1 c2 c3 c4 : Value) (w : World) : Calls Try.prog 66 #[.agg #[.int .i64 k, c1, c2, c3, c4]] w fun e w' => e = .returned (.bool (nullB k)) ∧ ∃ q os, w' = grow (w.drewN q) os := by
  go_enter Try.func66, Try.ntmps66
  go_wp2_with (go_at_call 69; refine (usesC _ _).mono ?_; rintro e w' ⟨rfl, rfl⟩)
  go_ret
  exact ⟨ret_bool (by unfold nullB; rfl), (Grw.refl w).alloc _⟩
theorem sameKeyC (s t : ByteArray) (c0 c1 c2 c3 c4 d0 d1 d2 d3 d4 : Value) (w : World) : Calls Try.prog 65 #[.agg #[.string s, c0, c1, c2, c3, c4], .agg #[.string t, d0, d1, d2, d3, d4]] w fun e w' => e = .returned (.bool (decide (s = t))) ∧ ∃ q os, w' = grow (w.drewN q) os := by
  have hb : (s.toList == t.toList) = decide (s = t) := by
    by_cases h : s = t
    · subst h; simp
    · rw [str_ne h, decide_eq_false h]
  have hg : Grw w ((w.alloc (.cells #[.string s, c0, c1, c2, c3, c4] 32)).alloc (.cells #[.string t, d0, d1, d2, d3, d4] 32)) := ((Grw.refl w).alloc _).alloc _
  have HG := Lib.hid hg
  clear hg
  go_enter Try.func65, Try.ntmps65
  go_wp2
  go_ret
  exact ⟨rfl, HG.out⟩
def lastB (rs : List Rw) (i : Nat) : Bool := !(decide (i + 1 < rs.length) && decide ((rs[i]!).s = (rs[i + 1]!).s)) && !(nullB (rs[i]!).k)
/-- What lasts hands to kept: at box Ba the count, at box Bl the row. -/
def LastI (rs : List Rw) (Ba Bl g : Nat) (c : Nat) (i : Nat) (W : World) : Prop := W.heap[Ba]? = some (.cells #[.int .i64 i] 3 (0, 0)) ∧ W.heap[Bl]? = some (.cells #[.slice (some ⟨g, 0, none⟩) rs.length c] 25 (0, 0)) ∧ CellsAt W g 0 (flatR rs) ∧ g < W.heap.size
theorem LastI.grw {rs : List Rw} {Ba Bl g c i : Nat} {W W' : World} (h : LastI rs Ba Bl g c i W) (hg : Grw W W') : LastI rs Ba Bl g c i W' := by
  obtain ⟨h1, h2, h3, h4⟩ := h
  have hb := hg.below
  exact ⟨(hb.block _ (row_lt _ _ _ h1)).trans h1, (hb.block _ (row_lt _ _ _ h2)).trans h2, fun j u hj => (World.cell?_of_block (a := ⟨g, 0 + j, none⟩) (hb.block g h4)).trans (h3 j u hj), Nat.lt_of_lt_of_le h4 hb.size⟩
theorem lastB_go {rs : List Rw} {i : Nat} {r x : Rw} (hr : rs[i]? = some r) (hx : rs[i + 1]? = some x) : lastB rs i = (!(decide (r.s = x.s)) && !(nullB r.k)) := by
  have h1 := (List.getElem?_eq_some_iff.1 hx).1
  unfold lastB
  rw [decide_eq_true h1, Bool.true_and, getElem!_pos rs i (by omega), getElem!_pos rs (i + 1) h1]
  rw [List.getElem?_eq_getElem (by omega)] at hr hx
  injection hr with hr
  injection hx with hx
  rw [hr, hx]
theorem lastB_end {rs : List Rw} {i : Nat} {r : Rw} (hr : rs[i]? = some r) (hn : ¬ i + 1 < rs.length) : lastB rs i = !(nullB r.k) := by
  have h1 := (List.getElem?_eq_some_iff.1 hr).1
  unfold lastB
  rw [decide_eq_false hn, Bool.false_and, getElem!_pos rs i h1]
  rw [List.getElem?_eq_getElem h1] at hr
  injection hr with hr
  rw [hr]; rfl
set_option maxHeartbeats 4000000 in
theorem lastKeep (rs : List Rw) (Ba Bl g c : Nat) (hne : Ba ≠ Bl) (hng : Ba ≠ g) (hcap : rs.length ≤ c) (hlen : rs.length ≤ 1000000000) : KeepOk 64 #[.pointer (some ⟨Ba, 0, none⟩), .pointer (some ⟨Bl, 0, none⟩)] rs (lastB rs) (LastI rs Ba Bl g c) Ba := by
  intro i r W hr hI
  obtain ⟨i1, i2, i3, i4⟩ := hI
  obtain ⟨N, hN⟩ : ∃ N, rs.length = N := ⟨_, rfl⟩
  have hi := (List.getElem?_eq_some_iff.1 hr).1
  have hBa := row_lt _ _ _ i1
  have hBl := row_lt _ _ _ i2
  show Calls Try.prog 64 #[.agg #[.string r.s, .int .i64 r.k, .int .i64 r.n, .slice r.A2 r.m2 r.c2, .slice r.A3 r.m3 r.c3, .slice r.A4 r.m4 r.c4], .pointer (some ⟨Ba, 0, none⟩), .pointer (some ⟨Bl, 0, none⟩)] W _
  have hb1 := (Below.refl W.heap.size W).alloc (Nat.le_refl _) (.cells #[.string r.s, .int .i64 r.k, .int .i64 r.n, .slice r.A2 r.m2 r.c2, .slice r.A3 r.m3 r.c3, .slice r.A4 r.m4 r.c4] 32)
  have hn1 := heap_alloc_new W (.cells #[.string r.s, .int .i64 r.k, .int .i64 r.n, .slice r.A2 r.m2 r.c2, .slice r.A3 r.m3 r.c3, .slice r.A4 r.m4 r.c4] 32)
  have hs1 : (W.alloc (.cells #[.string r.s, .int .i64 r.k, .int .i64 r.n, .slice r.A2 r.m2 r.c2, .slice r.A3 r.m3 r.c3, .slice r.A4 r.m4 r.c4] 32)).heap.size = W.heap.size + 1 := by simp
  obtain ⟨W1, hW1⟩ : ∃ W1, W.alloc (.cells #[.string r.s, .int .i64 r.k, .int .i64 r.n, .slice r.A2 r.m2 r.c2, .slice r.A3 r.m3 r.c3, .slice r.A4 r.m4 r.c4] 32) = W1 := ⟨_, rfl⟩
  rw [hW1] at hb1 hn1 hs1
  have a1 := (hb1.block Ba hBa).trans i1
  have a2 := (hb1.block Bl hBl).trans i2
  -- behind the count's store
  have hst : Only Ba W1 (W1.setCell ⟨Ba, 0, none⟩ (.int .i64 ((i : Int) + 1))) := (Only.refl Ba W1).set_ 0 _
  have b1 : (W1.setCell ⟨Ba, 0, none⟩ (.int .i64 ((i : Int) + 1))).heap[Ba]? = some (.cells #[.int .i64 ((i : Int) + 1)] 3 (0, 0)) := heap_set W1 Ba 0 _ [.int .i64 (i : Int)] _ a1
  have q0 : W1.cell? ⟨Ba, 0, none⟩ = some (.int .i64 (i : Int)) := by rw [cell_of_row _ _ 0 _ _ (0, 0) a1]; rfl
  have q1 : W1.frozen? ⟨Ba, 0, none⟩ = false := by simp [World.frozen?, a1]
  obtain ⟨W2, hW2⟩ : ∃ W2, W1.setCell ⟨Ba, 0, none⟩ (.int .i64 ((i : Int) + 1)) = W2 := ⟨_, rfl⟩
  rw [hW2] at hst b1
  have b2 := (hst.block Bl (by omega) (fun e => hne e.symm)).trans a2
  have b3 := (hst.block W.heap.size (by omega) (by omega)).trans hn1
  have b4 : CellsAt W2 g 0 (flatR rs) := fun j u hj => ((World.cell?_of_block (a := ⟨g, 0 + j, none⟩) (hst.block g (by omega) (fun e => hng e.symm))).trans (World.cell?_of_block (a := ⟨g, 0 + j, none⟩) (hb1.block g i4))).trans (i3 j u hj)
  have hs2 : W.heap.size + 1 ≤ W2.heap.size := by have := hst.size; omega
  have hO2 : Only Ba W W2 := (Only.of_below hb1 Ba).trans hst
  -- what is found behind draws and new blocks
  have HKY : Hid (∀ n os, (grow (W2.drewN n) os).cell? ⟨Ba, 0, none⟩ = some (.int .i64 ((i : Int) + 1)) ∧ (grow (W2.drewN n) os).cell? ⟨Bl, 0, none⟩ = some (.slice (some ⟨g, 0, none⟩) rs.length c) ∧
      ((grow (W2.drewN n) os).cell? ⟨W.heap.size, 0, none⟩ = some (.string r.s) ∧ (grow (W2.drewN n) os).cell? ⟨W.heap.size, 1, none⟩ = some (.int .i64 r.k) ∧ (grow (W2.drewN n) os).cell? ⟨W.heap.size, 2, none⟩ = some (.int .i64 r.n) ∧ (grow (W2.drewN n) os).cell? ⟨W.heap.size, 3, none⟩ = some (.slice r.A2 r.m2 r.c2) ∧ (grow (W2.drewN n) os).cell? ⟨W.heap.size, 4, none⟩ = some (.slice r.A3 r.m3 r.c3) ∧ (grow (W2.drewN n) os).cell? ⟨W.heap.size, 5, none⟩ = some (.slice r.A4 r.m4 r.c4)) ∧
      CellsAt (grow (W2.drewN n) os) g 0 (flatR rs) ∧ (grow (W2.drewN n) os).heap[Ba]? = some (.cells #[.int .i64 ((i : Int) + 1)] 3 (0, 0)) ∧ (grow (W2.drewN n) os).heap[Bl]? = some (.cells #[.slice (some ⟨g, 0, none⟩) rs.length c] 25 (0, 0)) ∧ Only Ba W (grow (W2.drewN n) os)) := Lib.hid (fun n os => by
    have hgr : Below W2.heap.size W2 (grow (W2.drewN n) os) := Grw.below ⟨n, os, rfl⟩
    have k1 := (hgr.block Ba (row_lt _ _ _ b1)).trans b1
    have k2 := (hgr.block Bl (row_lt _ _ _ b2)).trans b2
    have k3 := (hgr.block W.heap.size (by omega)).trans b3
    exact ⟨cell_of_row _ _ 0 _ _ (0, 0) k1, cell_of_row _ _ 0 _ _ (0, 0) k2, ⟨cell_of_row _ _ 0 _ _ (0, 0) k3, cell_of_row _ _ 1 _ _ (0, 0) k3, cell_of_row _ _ 2 _ _ (0, 0) k3, cell_of_row _ _ 3 _ _ (0, 0) k3, cell_of_row _ _ 4 _ _ (0, 0) k3, cell_of_row _ _ 5 _ _ (0, 0) k3⟩, fun j u hj => (World.cell?_of_block (a := ⟨g, 0 + j, none⟩) (hgr.block g (by omega))).trans (b4 j u hj), k1, k2, hO2.trans (Only.of_below hgr Ba)⟩)
  have HG2 : Hid (g < W2.heap.size) := Lib.hid (by omega)
  have HRR := Lib.hid hr
  have HNN := Lib.hid hN
  have HW2 := Lib.hid hW2
  have HW1 := Lib.hid hW1
  have hiN : i < N := by omega
  rw [hN] at hcap hlen HKY
  clear b1 b2 b3 b4 hst hO2 i1 i2 i3 hb1 hn1 a1 a2 hW2 hW1 hr hi
  go_enter Try.func64, Try.ntmps64
  go_upto_region 1 with fail
  rw [HW1.out]
  go_upto_region 2 with fail
  rw [HW2.out]
  have mixed : Try.prog.follows .mixedOrders = true := by kernel_rfl
  clear q0 q1
  have key := HKY.out
  have k0 := fun n os => (key n os).1
  have r0 := fun n os => (key n os).2.2.1.1
  have r1 := fun n os => (key n os).2.2.1.2.1
  have r2 := fun n os => (key n os).2.2.1.2.2.1
  have r3 := fun n os => (key n os).2.2.1.2.2.2.1
  have r4 := fun n os => (key n os).2.2.1.2.2.2.2.1
  have r5 := fun n os => (key n os).2.2.1.2.2.2.2.2
  by_cases hlt : i + 1 < N
  · have hlz : decide ((i : Int) + 1 < (N : Int)) = true := decide_eq_true (by omega)
    have hlz2 : (i : Int) + 1 < (N : Int) := by omega
    have p0 : (0 : Int) ≤ (i : Int) + 1 := by omega
    have e0 : ((i : Int) + 1).toNat = i + 1 := by omega
    obtain ⟨x, hx⟩ : ∃ x, rs[i + 1]? = some x := ⟨rs[i + 1]'(by rw [HNN.out]; exact hlt), List.getElem?_eq_getElem _⟩
    have HXX := Lib.hid hx
    have six := fun n os => (key n os).2.2.2.1.six (i + 1) x hx
    obtain ⟨oz, hoz⟩ : ∃ oz : Nat, oz = 0 := ⟨0, rfl⟩
    rw [← hoz] at six
    have k1 : ∀ n os, (grow (W2.drewN n) os).cell? ⟨Bl, 0, none⟩ = some (.slice (some ⟨g, oz, none⟩) N c) := fun n os => by rw [hoz]; exact (key n os).2.1
    have x0 := fun n os => (six n os).1
    have x1 := fun n os => (six n os).2.1
    have x2 := fun n os => (six n os).2.2.1
    have x3 := fun n os => (six n os).2.2.2.1
    have x4 := fun n os => (six n os).2.2.2.2.1
    have x5 := fun n os => (six n os).2.2.2.2.2
    have HLB := Lib.hid (lastB_go HRR.out hx)
    clear six hx hoz key
    go_quiet_grown (first | (go_at_call 65; refine Calls.grown_of (sameKeyC _ _ _ _ _ _ _ _ _ _ _ _ _)))
    have hgr : Grw W2 (grow (W2.drewN nq) osq) := ⟨nq, osq, rfl⟩
    obtain ⟨m0, _, ⟨s0, s1, s2, s3, s4, s5⟩, mC, mA, mL, mO⟩ := HKY.out nq osq
    have HF := Lib.hid (show LastI rs Ba Bl g c (i + 1) (grow (W2.drewN nq) osq) ∧ Only Ba W (grow (W2.drewN nq) osq) from ⟨⟨mA, by rw [HNN.out]; exact mL, mC, by rw [size_grow]; exact Nat.lt_of_lt_of_le HG2.out (Nat.le_add_right _ _)⟩, mO⟩)
    clear k0 k1 r0 r1 r2 r3 r4 r5 x0 x1 x2 x3 x4 x5 hgr m0 mC mA mL mO
    generalize grow (W2.drewN nq) osq = W3 at *
    clear nq osq
    cases heq : decide (r.s = x.s) with
    | true =>
      rw [heq] at HLB
      go_wp2_with fail
      go_ret
      exact ⟨by rw [HLB.out]; rfl, HF.out⟩
    | false =>
      rw [heq] at HLB
      go_wp2_with (go_at_call 66; (with_reducible refine (nullC _ _ _ _ _ _).mono ?_); (rintro e w4 ⟨rfl, hgw⟩); have HGW := Lib.hid (show Grw W3 w4 from hgw); clear hgw)
      go_ret
      exact ⟨by rw [HLB.out]; rfl, LastI.grw HF.out.1 HGW.out, HF.out.2.trans (Only.of_below HGW.out.below Ba)⟩
  · have hlz : decide ((i : Int) + 1 < (N : Int)) = false := decide_eq_false (by omega)
    have hlz2 : ¬ (i : Int) + 1 < (N : Int) := by omega
    have k1 := fun n os => (key n os).2.1
    have HLB := Lib.hid (lastB_end HRR.out (by rw [HNN.out]; exact hlt))
    clear key
    go_quiet_grown (fail)
    obtain ⟨m0, _, ⟨s0, s1, s2, s3, s4, s5⟩, mC, mA, mL, mO⟩ := HKY.out nq osq
    have HF := Lib.hid (show LastI rs Ba Bl g c (i + 1) (grow (W2.drewN nq) osq) ∧ Only Ba W (grow (W2.drewN nq) osq) from ⟨⟨mA, by rw [HNN.out]; exact mL, mC, by rw [size_grow]; exact Nat.lt_of_lt_of_le HG2.out (Nat.le_add_right _ _)⟩, mO⟩)
    clear k0 k1 r0 r1 r2 r3 r4 r5 m0 mC mA mL mO
    generalize grow (W2.drewN nq) osq = W3 at *
    clear nq osq
    go_wp2_with (go_at_call 66; (with_reducible refine (nullC _ _ _ _ _ _).mono ?_); (rintro e w4 ⟨rfl, hgw⟩); have HGW := Lib.hid (show Grw W3 w4 from hgw); clear hgw)
    go_ret
    exact ⟨by rw [HLB.out]; rfl, LastI.grw HF.out.1 HGW.out, HF.out.2.trans (Only.of_below HGW.out.below Ba)⟩
end Go.Proofs.Ytkloipjkialakaa
