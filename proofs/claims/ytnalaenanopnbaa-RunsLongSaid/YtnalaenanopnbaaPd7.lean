/- Chapter 7, the program's own Decode. -/
import Derived.Test.YtnalaenanopnbaaPm7
import Derived.StillTailTactics
namespace Go.Proofs.Ytnalaenanopnbaa
open Go.RowKit
set_option linter.unusedVariables false
set_option maxRecDepth 100000

/-- The reader in block kp: what is left, what came in a row of its own, the bound. -/
structure RS (w : World) (base kp : Nat) (A : Option Addr) (n c : Nat) (v : Value) (out : List Int) (M : Nat) : Prop where
  cell : w.heap[kp]? = some (.cells #[.slice A n c, v, .int .i64 M] 36 (0, 0))
  row : Mine w base v out.length out
  own : ∀ b, v.ownBlock = some b → b ≠ kp
  lo : base ≤ kp
  lm : out.length ≤ M
section
variable {w w' : World} {base kp n c M : Nat} {A : Option Addr} {v : Value} {out : List Int}
theorem RS.lt (h : RS w base kp A n c v out M) : kp < w.heap.size := by
  rcases Nat.lt_or_ge kp w.heap.size with hlt | hge
  · exact hlt
  · have := h.cell; rw [Array.getElem?_eq_none hge] at this; cases this
theorem RS.base_le (h : RS w base kp A n c v out M) : base ≤ w.heap.size := Nat.le_trans h.lo (Nat.le_of_lt h.lt)
theorem RS.c0 (h : RS w base kp A n c v out M) : w.cell? ⟨kp, 0, none⟩ = some (.slice A n c) := by rw [cell_of_row w kp 0 _ 36 (0, 0) h.cell]; rfl
theorem RS.c1 (h : RS w base kp A n c v out M) : w.cell? ⟨kp, 1, none⟩ = some v := by rw [cell_of_row w kp 1 _ 36 (0, 0) h.cell]; rfl
theorem RS.c2 (h : RS w base kp A n c v out M) : w.cell? ⟨kp, 2, none⟩ = some (.int .i64 M) := by rw [cell_of_row w kp 2 _ 36 (0, 0) h.cell]; rfl
theorem RS.fr (h : RS w base kp A n c v out M) (i : Nat) : w.frozen? ⟨kp, i, none⟩ = false := by
  have := h.cell
  simp [World.frozen?, this]
theorem RS.drewN (h : RS w base kp A n c v out M) (k : Nat) : RS (w.drewN k) base kp A n c v out M := ⟨h.cell, h.row.drewN k, h.own, h.lo, h.lm⟩
theorem RS.more (h : RS w base kp A n c v out M) (hb : Below w.heap.size w w') : RS w' base kp A n c v out M := ⟨(hb.block kp h.lt).trans h.cell, h.row.kept hb, h.own, h.lo, h.lm⟩
theorem RS.new (w : World) (base M : Nat) (A : Option Addr) (n c : Nat) (hb : base ≤ w.heap.size) : RS (w.alloc (.cells #[.slice A n c, .slice none 0 0, .int .i64 M] 36)) base w.heap.size A n c (.slice none 0 0) [] M :=
  ⟨heap_alloc_new w _, Mine.nil _ _, (fun b hb => by cases hb), hb, Nat.zero_le _⟩
theorem RS.setB (h : RS w base kp A n c v out M) (A2 : Option Addr) (n2 c2 : Nat) : RS (w.setCell ⟨kp, 0, none⟩ (.slice A2 n2 c2)) base kp A2 n2 c2 v out M := by
  refine ⟨?_, h.row.same6 fun b hb hlt => Below.heap_setCell w ⟨kp, 0, none⟩ _ b (h.own b hb), h.own, h.lo, h.lm⟩
  have := h.cell
  simp [World.setCell, Array.getElem?_modify, this]
theorem RS.belowSet (h : RS w base kp A n c v out M) (i : Nat) (u : Value) : Below base w (w.setCell ⟨kp, i, none⟩ u) := ((Only.refl kp w).set_ i u).belowB h.lo (Nat.le_of_lt h.lt)
/-- A row that grew, put back. -/
theorem RS.grown {v' : Value} {out' : List Int} (h : RS w base kp A n c v out M) (hk : KeepX v w v' w') (hm : Mine w' base v' out'.length out') (hl : out'.length ≤ M) :
    RS (w'.setCell ⟨kp, 1, none⟩ v') base kp A n c v' out' M ∧ Below base w (w'.setCell ⟨kp, 1, none⟩ v') ∧ w'.frozen? ⟨kp, 1, none⟩ = false ∧ w'.cell? ⟨kp, 1, none⟩ = some v := by
  have hlt := h.lt
  have hne : ∀ b, v'.ownBlock = some b → b ≠ kp := fun b hb => by
    rcases hk.own b hb with h1 | h1
    · exact h.own b h1
    · omega
  have hks : w'.heap[kp]? = w.heap[kp]? := hk.block kp hlt (fun e => h.own kp e rfl)
  have h6 := hks.trans h.cell
  refine ⟨⟨?_, hm.same6 fun b hb _ => Below.heap_setCell w' ⟨kp, 1, none⟩ v' b (hne b hb), hne, h.lo, hl⟩, (hk.below h.base_le h.row.owned).trans (((Only.refl kp w').set_ 1 v').belowB h.lo (Nat.le_of_lt (Nat.lt_of_lt_of_le hlt hk.size))), (World.frozen?_of_block hks).trans (h.fr 1), (World.cell?_of_block hks).trans h.c1⟩
  simp [World.setCell, Array.getElem?_modify, h6]
/-- Some bytes, put behind what came. -/
theorem RS.put (h : RS w base kp A n c v out M) {A2 : Option Addr} {m c2 : Nat} {ys : List Int} (hy : Byt w base A2 m c2 ys) (hm : m ≤ 1000000) (hO : out.length ≤ 100000000) (hl : out.length + m ≤ M) :
    Calls Try.prog 16 #[v, .slice (some ⟨w.heap.size, 0, none⟩) 1 1] (w.alloc (.cells #[.slice A2 m c2] 23)) fun r w' => ∃ v', r = .returned v' ∧
      RS (w'.setCell ⟨kp, 1, none⟩ v') base kp A n c v' (out ++ ys) M ∧ Below base w (w'.setCell ⟨kp, 1, none⟩ v') ∧ w'.frozen? ⟨kp, 1, none⟩ = false ∧ w'.cell? ⟨kp, 1, none⟩ = some v ∧ ∃ A5 n5 c5, v' = .slice A5 n5 c5 := by
  have b1 := (Below.refl w.heap.size w).alloc (Nat.le_refl _) (.cells #[.slice A2 m c2] 23)
  have hlt := h.row.lt
  have hown := h.row.owned
  have hbl := h.base_le
  refine (putC base w.heap.size 1 v out _ _ _ _ _ (h.row.kept b1) (by simp; omega) (parts1 (by simp) (by simp [World.cell?_alloc_mark]) ((hy.below b1 hbl).more (by simp; omega))) (fun e => by have := hlt _ e; omega) (fun i hi => ?_) (by omega) hO (fun i hi => ?_)).mono ?_
  · obtain rfl : i = 0 := by omega
    intro h0 b o e1 e2
    obtain ⟨b', o', e', hb', _⟩ := hy.cell h0
    simp only [at3] at e1
    rw [e'] at e1
    simp only [Option.some.injEq, Addr.mk.injEq] at e1
    have := hown _ e2
    omega
  · obtain rfl : i = 0 := by omega
    exact hm
  · rintro r w' ⟨v', rfl, hm', hk', _⟩
    have e : out ++ catZ (at3 ys ys ys) 1 = out ++ ys := by simp [catZ, at3]
    rw [e] at hm'
    obtain ⟨g1, g2, g3, g4⟩ := (h.more b1).grown hk' hm' (by rw [List.length_append, hy.len]; exact hl)
    obtain ⟨A5, c5, e5, _⟩ := hm'.byt
    exact ⟨v', rfl, g1, (b1.mono hbl).trans g2, g3, g4, _, _, _, e5⟩
end

/-- Pure: k bytes asked as they are. -/
theorem rd_part (M : Nat) : ∀ (k : Nat) (ys out : List Int), 0 < k → out.length ≤ M → rdR M ys k out = if M < out.length + min k ys.length then ([], 7) else if ys.length < k then ([], 2) else rdR M (ys.drop k) 0 (out ++ ys.take k)
  | 0, ys, out, h, _ => absurd h (Nat.lt_irrefl _)
  | k + 1, [], out, _, hM => by
    rw [rd_nil, if_neg (by simp; omega), if_pos (by simp)]
  | k + 1, c :: l, out, _, hM => by
    rw [rd_lit]
    by_cases h : out.length < M
    · rw [if_pos h]
      rcases Nat.eq_zero_or_pos k with rfl | hk
      · rw [if_neg (by simp; omega), if_neg (by simp)]
        simp
      · rw [rd_part M k l (out ++ [c]) hk (by simp; omega)]
        simp only [List.length_append, List.length_cons, List.length_nil, List.drop_succ_cons, List.take_succ_cons, List.append_assoc, List.cons_append, List.nil_append]
        have e1 : (M < out.length + (0 + 1) + min k l.length) = (M < out.length + min (k + 1) (l.length + 1)) := by apply propext; omega
        have e2 : (l.length < k) = (l.length + 1 < k + 1) := by apply propext; omega
        simp only [e1, e2]
    · rw [if_neg h, if_pos (by simp; omega)]
/-- What a part says: k bytes asked, they come t times. -/
def parS (M : Nat) (ys : List Int) (k t : Nat) (out : List Int) : List Int × Int :=
  if M < out.length + min k ys.length * t then ([], 7) else if ys.length < k then ([], 2) else rdR M (ys.drop k) 0 (out ++ (List.replicate t (ys.take k)).flatten)
theorem par_few (M : Nat) (z : Int) (ys out : List Int) (h0 : 0 ≤ z) (h1 : z < 128) (hM : out.length ≤ M) : rdR M (z :: ys) 0 out = parS M ys (z.toNat + 1) 1 out := by
  rw [rd_few M z ys out h0 h1, rd_part M (z.toNat + 1) ys out (by omega) hM, parS]
  simp
theorem par_row (M : Nat) (z : Int) (ys out : List Int) (h0 : 128 < z) (hM : out.length ≤ M) : rdR M (z :: ys) 0 out = parS M ys 1 (257 - z).toNat out := by
  cases ys with
  | nil => rw [rd_row0 M z out h0, parS, if_neg (by simp; omega), if_pos (by simp)]
  | cons c l =>
    rw [rd_row M z c l out h0, parS, repR]
    have e : (List.replicate (257 - z).toNat [c]).flatten = List.replicate (257 - z).toNat c := by
      generalize (257 - z).toNat = m
      induction m with
      | zero => rfl
      | succ m ih => rw [List.replicate_succ, List.flatten_cons, ih, List.replicate_succ]; rfl
    simp only [List.take_succ_cons, List.take_zero, List.drop_succ_cons, List.drop_zero, e, List.length_cons]
    rw [show min 1 (l.length + 1) = 1 by omega, Nat.one_mul]
    by_cases h : out.length + (257 - z).toNat ≤ M
    · rw [if_pos h, if_neg (by omega), if_neg (by omega)]
    · rw [if_neg h, if_pos (by omega)]
theorem flat_len (t : Nat) (X : List Int) : (List.replicate t X).flatten.length = t * X.length := by
  induction t with
  | zero => simp
  | succ t ih => rw [List.replicate_succ, List.flatten_cons, List.length_append, ih, Nat.succ_mul, Nat.add_comm]
theorem flat_snoc (t : Nat) (X : List Int) : (List.replicate (t + 1) X).flatten = (List.replicate t X).flatten ++ X := by
  rw [List.replicate_succ', List.flatten_append]; simp
/-- Where the reader stands: R is what comes of it all. -/
def RSt (w0 : World) (base kp M L : Nat) (R : List Int × Int) (w : World) (N : Nat) : Prop :=
  Below base w0 w ∧ ∃ (A : Option Addr) (n c : Nat) (v : Value) (out ys : List Int), n ≤ N ∧ RS w base kp A n c v out M ∧ (∀ W, Below base w0 W → Byt W base A n c ys) ∧ out.length + 128 * n ≤ L ∧ rdR M ys 0 out = R
/-- What a part leaves: an error, or on. -/
def ParP (w0 : World) (base kp M L : Nat) (R : List Int × Int) (N : Nat) (e : Int) (w : World) : Prop :=
  (¬ e = 0 ∧ R = ([], e) ∧ Below base w0 w) ∨ (e = 0 ∧ RSt w0 base kp M L R w N)

set_option maxHeartbeats 4000000 in
theorem partC (w0 : World) (base kp M L : Nat) (R : List Int × Int) (A : Option Addr) (n c : Nat) (v : Value) (out ys : List Int) (z : Int) (w : World) (h : RS w base kp A n c v out M) (hbe : Below base w0 w) (hy : ∀ W, Below base w0 W → Byt W base A n c ys)
    (hz : 0 ≤ z ∧ z < 256) (h128 : ¬ z = 128) (hL : out.length + 128 * n + 128 ≤ L) (hL2 : L ≤ 100000000) (hM : (M : Int) ≤ 9223372036854775807) (hn : n ≤ 1000000) (hR : rdR M (z :: ys) 0 out = R) :
    Calls Try.prog 23 #[.pointer (some ⟨kp, 0, none⟩), .int .i64 z] w fun r w' => ∃ e : Int, r = .returned (.int .i64 e) ∧ ParP w0 base kp M L R n e w' := by
  have H := Lib.hid h
  have HBE := Lib.hid hbe
  have HY := Lib.hid hy
  have HL := Lib.hid (hy w0 (Below.refl _ _)).len
  have hcap := (hy w0 (Below.refl _ _)).cap
  have lm := h.lm
  have k0 := h.c0
  have k1 := h.c1
  have k2 := h.c2
  have f0 := h.fr 0
  obtain ⟨A1, c1, hv, _⟩ := h.row.byt
  subst hv
  clear hy
  by_cases h1 : z < 128
  · obtain ⟨K, hK⟩ : ∃ K : Nat, z + 1 = K := ⟨(z + 1).toNat, by omega⟩
    have hr := par_few M z ys out hz.1 h1 h.lm
    rw [hR, show z.toNat + 1 = K by omega] at hr
    obtain ⟨T, hT1⟩ : ∃ T : Nat, T = 1 := ⟨1, rfl⟩
    rw [← hT1] at hr
    replace hr := hr.symm
    have hKT : T = 1 ∨ K = 1 := .inl hT1
    have hK128 : K ≤ 128 := by omega
    have hT128 : T ≤ 128 := by omega
    have hg0 : ¬ z > 128 := by omega
    have wK : IntKind.i64.wrap (K : Int) = K := IntWalk.i64_in _ (by omega)
    clear h hbe hR
    go_enter Try.func23, Try.ntmps23
    obtain ⟨m, hm⟩ : ∃ m : Nat, min K n = m := ⟨_, rfl⟩
    have hml : m ≤ n := by omega
    have em : min (K : Int) (n : Int) = (m : Int) := by omega
    have hs0 := fun W => run_cut0 (P := Try.prog) W 23 5 Try.underlying23 (fun w => by kernel_rfl) A n c m (by omega)
    obtain ⟨P, hP⟩ : ∃ P : Nat, m * T = P := ⟨_, rfl⟩
    have hmK : m ≤ K := by omega
    have hP128 : P ≤ 128 := by
      rw [← hP]
      rcases hKT with h | h
      · rw [h, Nat.mul_one]; omega
      · have : m * T ≤ 1 * T := Nat.mul_le_mul_right T (by omega)
        omega
    have ePm : (m : Int) * (1 : Int) = (m : Int) := by
      first
        | (rw [hT1, Nat.mul_one] at hP; subst hP; exact Int.mul_one _)
        | (rw [← hP]; exact (Int.natCast_mul m T).symm)
    have wP : IntKind.i64.wrap (m : Int) = (m : Int) := IntWalk.i64_in _ (by omega)
    obtain ⟨D, hD⟩ : ∃ D : Nat, (M : Int) - out.length = D := ⟨M - out.length, by omega⟩
    have wD : IntKind.i64.wrap (D : Int) = (D : Int) := IntWalk.i64_in _ (by omega)
    rw [parS, HL.out, hm, hP] at hr
    have hpP : (m : Nat) = P := by first | rfl | (rw [hT1, Nat.mul_one] at hP; exact hP)
    by_cases hlim : D < P
    · have hg : (m : Int) > D := by omega
      rw [if_pos (by omega)] at hr
      have HRR := Lib.hid hr
      clear hm hP hpP hT1 hr
      go_wp2_with fail
      go_quiet (fail)
      go_wp2_with fail
      go_quiet (fail)
      go_wp2_with fail
      go_ret
      exact ⟨_, rfl, .inl ⟨by decide, HRR.out.symm, by first | exact below_drewN HBE.out _ | exact below_drewN (below_drewN HBE.out _) _⟩⟩
    · have hg : ¬ (m : Int) > D := by omega
      rw [if_neg (by omega)] at hr
      by_cases hsh : n < K
      · have hg2 : (m : Int) < (K : Int) := by omega
        rw [if_pos hsh] at hr
        have HRR := Lib.hid hr
        clear hm hP hpP hT1 hr
        go_wp2_with fail
        go_quiet (fail)
        go_wp2_with fail
        go_quiet (fail)
        go_wp2_with fail
        go_ret
        exact ⟨_, rfl, .inl ⟨by decide, HRR.out.symm, by first | exact below_drewN HBE.out _ | exact below_drewN (below_drewN HBE.out _) _⟩⟩
      · have hg2 : ¬ (m : Int) < (K : Int) := by omega
        rw [if_neg hsh] at hr
        have HRR := Lib.hid hr
        have hgd : decide (D < m) = false := decide_eq_false (by omega)
        have hgd2 : decide (m < K) = false := decide_eq_false (by omega)
        have HMK : Hid (m = K) := Lib.hid (by omega)
        have HTL : Hid ((ys.take K).length = m) := Lib.hid (by rw [List.length_take, HL.out]; omega)
        have HPT := Lib.hid hP
        have HSB := Lib.hid (fun W (hW : Below base w0 W) => (HY.out W hW).first hml)
        clear hm hP hpP hr
        go_wp2_with fail
        go_quiet (fail)
        go_wp2_with fail
        go_quiet (fail)
        go_wp2_with fail
        have HT1 := Lib.hid hT1
        clear hT1 hKT
        go_loopw [46] (fun iv wr => ∃ (j : Nat) (v2 : Value), j ≤ T ∧ iv = .int .i64 j ∧ Hid (RS wr base kp A n c v2 (out ++ (List.replicate j (ys.take K)).flatten) M) ∧ Hid (Below base w0 wr)) (fun iv _ => T - (intOf iv).toNat)
        case atStart => exact ⟨0, _, Nat.zero_le _, rfl, Lib.hid (by simp only [List.replicate_zero, List.flatten_nil, List.append_nil]; first | exact H.out.drewN _ | exact (H.out.drewN _).drewN _), Lib.hid (by first | exact below_drewN HBE.out _ | exact below_drewN (below_drewN HBE.out _) _)⟩
        case round =>
          obtain ⟨j, v2, hj, rfl, HS, HB2⟩ := hrel
          have j1 := HS.out.c1
          have hfl : (out ++ (List.replicate j (ys.take K)).flatten).length = out.length + j * m := by rw [List.length_append, flat_len, HTL.out]
          have hjm : j * m ≤ P := by rw [← HPT.out, Nat.mul_comm m T]; exact Nat.mul_le_mul_right m hj
          by_cases hlt : j < T
          · have hg3 : (j : Int) < (1 : Int) := by have := HT1.out; omega
            have hjm2 : (j + 1) * m ≤ P := by rw [← HPT.out, Nat.mul_comm m T]; exact Nat.mul_le_mul_right m hlt
            rw [Nat.succ_mul] at hjm2
            have HPU := Lib.hid (HS.out.put (HSB.out wr HB2.out) (by omega) (by rw [hfl]; omega) (by rw [hfl]; omega))
            have HFL : Hid (out ++ (List.replicate (j + 1) (ys.take K)).flatten = out ++ (List.replicate j (ys.take K)).flatten ++ ys.take m) := Lib.hid (by rw [flat_snoc, HMK.out, List.append_assoc])
            clear hfl hjm hjm2
            go_wp2_with (go_at_call 16; refine HPU.out.mono ?_; (rintro r w3 ⟨v3, rfl, hs3, hb3, hf3, hk3, A5, n5, c5, rfl⟩); have HS3 := Lib.hid hs3; have HB3 := Lib.hid (HB2.out.trans hb3); clear hs3 hb3)
            go_roundw
            case rel => exact ⟨j + 1, _, by omega, by go_num, Lib.hid (by rw [HFL.out]; exact HS3.out), HB3⟩
            case measure => simp [intOf]; omega
          · obtain rfl : T = j := by omega
            have hg3 : ¬ (T : Int) < (1 : Int) := by have := HT1.out; omega
            have j0 := HS.out.c0
            have jf := HS.out.fr 0
            have hKn : K ≤ n := by omega
            have hsR : ∀ W, (Instr.slice 23 (.slice A n c) (some (.int .i64 (K : Int))) none none).run Try.prog W = .ok (.slice (cutA A c K) (n - K) (c - K)) W := fun W => by
              have h := run_cutR (P := Try.prog) W 23 5 Try.underlying23 (fun w => by kernel_rfl) A n c K hKn hcap
              first
                | exact h
                | (rw [HT1.out] at h ⊢; exact h)
            have HRS : Hid (RS wr base kp A n c v2 (out ++ (List.replicate T (ys.take K)).flatten) M) := HS
            obtain ⟨A9, hA9⟩ : ∃ A9, cutA A c K = A9 := ⟨_, rfl⟩
            obtain ⟨n9, hn9⟩ : ∃ n9, n - K = n9 := ⟨_, rfl⟩
            obtain ⟨c9, hc9⟩ : ∃ c9, c - K = c9 := ⟨_, rfl⟩
            have HYN : Hid (∀ W, Below base w0 W → Byt W base A9 n9 c9 (ys.drop K)) := Lib.hid (fun W hW => by rw [← hA9, ← hn9, ← hc9]; exact (HY.out W hW).rest hKn)
            have HN9 : Hid (n9 + K = n) := Lib.hid (by omega)
            have HK1 : Hid (1 ≤ K) := Lib.hid (by omega)
            have HP8 := Lib.hid hP128
            rw [hA9, hn9, hc9] at hsR
            clear hA9 hn9 hc9 hKn
            have HLEN2 := Lib.hid hfl
            have HJM := Lib.hid hjm
            clear hfl hjm
            go_wp2_with fail
            go_ret
            exact ⟨0, rfl, .inr ⟨rfl, HB2.out.trans (HRS.out.belowSet 0 _), _, _, _, _, _, _, by have := HN9.out; omega, HRS.out.setB _ _ _, HYN.out, by have := HLEN2.out; have := HJM.out; have := HN9.out; have := HK1.out; have := HP8.out; omega, HRR.out⟩⟩
  · obtain ⟨T, hT⟩ : ∃ T : Nat, 257 - z = T := ⟨(257 - z).toNat, by omega⟩
    have hr := par_row M z ys out (by omega) h.lm
    rw [hR, show (257 - z).toNat = T by omega] at hr
    obtain ⟨K, hT1⟩ : ∃ K : Nat, K = 1 := ⟨1, rfl⟩
    rw [← hT1] at hr
    replace hr := hr.symm
    have hKT : T = 1 ∨ K = 1 := .inr hT1
    have hK128 : K ≤ 128 := by omega
    have hT128 : T ≤ 128 := by omega
    have hg0 : z > 128 := by omega
    have wT : IntKind.i64.wrap (T : Int) = T := IntWalk.i64_in _ (by omega)
    have wz : IntKind.i64.wrap (z + 1) = z + 1 := IntWalk.i64_in _ (by omega)
    clear h hbe hR
    go_enter Try.func23, Try.ntmps23
    obtain ⟨m, hm⟩ : ∃ m : Nat, min K n = m := ⟨_, rfl⟩
    have hml : m ≤ n := by omega
    have em : min (1 : Int) (n : Int) = (m : Int) := by omega
    have hs0 := fun W => run_cut0 (P := Try.prog) W 23 5 Try.underlying23 (fun w => by kernel_rfl) A n c m (by omega)
    obtain ⟨P, hP⟩ : ∃ P : Nat, m * T = P := ⟨_, rfl⟩
    have hmK : m ≤ K := by omega
    have hP128 : P ≤ 128 := by
      rw [← hP]
      rcases hKT with h | h
      · rw [h, Nat.mul_one]; omega
      · have : m * T ≤ 1 * T := Nat.mul_le_mul_right T (by omega)
        omega
    have ePm : (m : Int) * (T : Int) = (P : Int) := by
      first
        | (rw [hT1, Nat.mul_one] at hP; subst hP; exact Int.mul_one _)
        | (rw [← hP]; exact (Int.natCast_mul m T).symm)
    have wP : IntKind.i64.wrap (P : Int) = (P : Int) := IntWalk.i64_in _ (by omega)
    obtain ⟨D, hD⟩ : ∃ D : Nat, (M : Int) - out.length = D := ⟨M - out.length, by omega⟩
    have wD : IntKind.i64.wrap (D : Int) = (D : Int) := IntWalk.i64_in _ (by omega)
    rw [parS, HL.out, hm, hP] at hr
    have hpP : (P : Nat) = P := by first | rfl | (rw [hT1, Nat.mul_one] at hP; exact hP)
    by_cases hlim : D < P
    · have hg : (P : Int) > D := by omega
      rw [if_pos (by omega)] at hr
      have HRR := Lib.hid hr
      clear hm hP hpP hT1 hr
      go_wp2_with fail
      go_quiet (fail)
      go_wp2_with fail
      go_quiet (fail)
      go_wp2_with fail
      go_ret
      exact ⟨_, rfl, .inl ⟨by decide, HRR.out.symm, by first | exact below_drewN HBE.out _ | exact below_drewN (below_drewN HBE.out _) _⟩⟩
    · have hg : ¬ (P : Int) > D := by omega
      rw [if_neg (by omega)] at hr
      by_cases hsh : n < K
      · have hg2 : (m : Int) < (1 : Int) := by omega
        rw [if_pos hsh] at hr
        have HRR := Lib.hid hr
        clear hm hP hpP hT1 hr
        go_wp2_with fail
        go_quiet (fail)
        go_wp2_with fail
        go_quiet (fail)
        go_wp2_with fail
        go_ret
        exact ⟨_, rfl, .inl ⟨by decide, HRR.out.symm, by first | exact below_drewN HBE.out _ | exact below_drewN (below_drewN HBE.out _) _⟩⟩
      · have hg2 : ¬ (m : Int) < (1 : Int) := by omega
        rw [if_neg hsh] at hr
        have HRR := Lib.hid hr
        have hgd : decide (D < P) = false := decide_eq_false (by omega)
        have hgd2 : decide (m < K) = false := decide_eq_false (by omega)
        have HMK : Hid (m = K) := Lib.hid (by omega)
        have HTL : Hid ((ys.take K).length = m) := Lib.hid (by rw [List.length_take, HL.out]; omega)
        have HPT := Lib.hid hP
        have HSB := Lib.hid (fun W (hW : Below base w0 W) => (HY.out W hW).first hml)
        clear hm hP hpP hr
        go_wp2_with fail
        go_quiet (fail)
        go_wp2_with fail
        go_quiet (fail)
        go_wp2_with fail
        have HT1 := Lib.hid hT1
        clear hT1 hKT
        go_loopw [46] (fun iv wr => ∃ (j : Nat) (v2 : Value), j ≤ T ∧ iv = .int .i64 j ∧ Hid (RS wr base kp A n c v2 (out ++ (List.replicate j (ys.take K)).flatten) M) ∧ Hid (Below base w0 wr)) (fun iv _ => T - (intOf iv).toNat)
        case atStart => exact ⟨0, _, Nat.zero_le _, rfl, Lib.hid (by simp only [List.replicate_zero, List.flatten_nil, List.append_nil]; first | exact H.out.drewN _ | exact (H.out.drewN _).drewN _), Lib.hid (by first | exact below_drewN HBE.out _ | exact below_drewN (below_drewN HBE.out _) _)⟩
        case round =>
          obtain ⟨j, v2, hj, rfl, HS, HB2⟩ := hrel
          have j1 := HS.out.c1
          have hfl : (out ++ (List.replicate j (ys.take K)).flatten).length = out.length + j * m := by rw [List.length_append, flat_len, HTL.out]
          have hjm : j * m ≤ P := by rw [← HPT.out, Nat.mul_comm m T]; exact Nat.mul_le_mul_right m hj
          by_cases hlt : j < T
          · have hg3 : (j : Int) < (T : Int) := by have := HT1.out; omega
            have hjm2 : (j + 1) * m ≤ P := by rw [← HPT.out, Nat.mul_comm m T]; exact Nat.mul_le_mul_right m hlt
            rw [Nat.succ_mul] at hjm2
            have HPU := Lib.hid (HS.out.put (HSB.out wr HB2.out) (by omega) (by rw [hfl]; omega) (by rw [hfl]; omega))
            have HFL : Hid (out ++ (List.replicate (j + 1) (ys.take K)).flatten = out ++ (List.replicate j (ys.take K)).flatten ++ ys.take m) := Lib.hid (by rw [flat_snoc, HMK.out, List.append_assoc])
            clear hfl hjm hjm2
            go_wp2_with (go_at_call 16; refine HPU.out.mono ?_; (rintro r w3 ⟨v3, rfl, hs3, hb3, hf3, hk3, A5, n5, c5, rfl⟩); have HS3 := Lib.hid hs3; have HB3 := Lib.hid (HB2.out.trans hb3); clear hs3 hb3)
            go_roundw
            case rel => exact ⟨j + 1, _, by omega, by go_num, Lib.hid (by rw [HFL.out]; exact HS3.out), HB3⟩
            case measure => simp [intOf]; omega
          · obtain rfl : T = j := by omega
            have hg3 : ¬ (T : Int) < (T : Int) := by have := HT1.out; omega
            have j0 := HS.out.c0
            have jf := HS.out.fr 0
            have hKn : K ≤ n := by omega
            have hsR : ∀ W, (Instr.slice 23 (.slice A n c) (some (.int .i64 (1 : Int))) none none).run Try.prog W = .ok (.slice (cutA A c K) (n - K) (c - K)) W := fun W => by
              have h := run_cutR (P := Try.prog) W 23 5 Try.underlying23 (fun w => by kernel_rfl) A n c K hKn hcap
              first
                | exact h
                | (rw [HT1.out] at h ⊢; exact h)
            have HRS : Hid (RS wr base kp A n c v2 (out ++ (List.replicate T (ys.take K)).flatten) M) := HS
            obtain ⟨A9, hA9⟩ : ∃ A9, cutA A c K = A9 := ⟨_, rfl⟩
            obtain ⟨n9, hn9⟩ : ∃ n9, n - K = n9 := ⟨_, rfl⟩
            obtain ⟨c9, hc9⟩ : ∃ c9, c - K = c9 := ⟨_, rfl⟩
            have HYN : Hid (∀ W, Below base w0 W → Byt W base A9 n9 c9 (ys.drop K)) := Lib.hid (fun W hW => by rw [← hA9, ← hn9, ← hc9]; exact (HY.out W hW).rest hKn)
            have HN9 : Hid (n9 + K = n) := Lib.hid (by omega)
            have HK1 : Hid (1 ≤ K) := Lib.hid (by omega)
            have HP8 := Lib.hid hP128
            rw [hA9, hn9, hc9] at hsR
            clear hA9 hn9 hc9 hKn
            have HLEN2 := Lib.hid hfl
            have HJM := Lib.hid hjm
            clear hfl hjm
            go_wp2_with fail
            go_ret
            exact ⟨0, rfl, .inr ⟨rfl, HB2.out.trans (HRS.out.belowSet 0 _), _, _, _, _, _, _, by have := HN9.out; omega, HRS.out.setB _ _ _, HYN.out, by have := HLEN2.out; have := HJM.out; have := HN9.out; have := HK1.out; have := HP8.out; omega, HRR.out⟩⟩
end Go.Proofs.Ytnalaenanopnbaa
