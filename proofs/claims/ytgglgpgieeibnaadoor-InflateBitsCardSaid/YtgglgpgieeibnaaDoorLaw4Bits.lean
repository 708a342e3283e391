/- InflateBits: any bytes, read by bits in whatever way: each answer, and which whole byte is next. No condition on the input. -/
import Derived.Test.YtgglgpgieeibnaaDoorLaw4Do
namespace Go.Proofs.YtgglgpgieeibnaaDoor
open Go.ChangeShapes Go.WideShapes Go.ChangeAt Go.RowKit Go.Deep
set_option linter.unusedVariables false
set_option maxRecDepth 100000

section
variable {H : Type} {enc : TypeId × Value → H} {W : World} {base : Nat} {sp : Nat → Bool} {held : Bool}
/-- A slice of deeds, opened. -/
theorem open_deeds {A : Option Addr} {len cap : Nat} {d : DataW H} {p : List MemPlace} (h : DataW.Trod enc Tryd.prog W base sp held 27 (.slice A len cap) d p) (hsp : ∀ b, sp b = true) :
    ∃ (D M : Nat → Int), len ≤ 9223372036854775807 ∧ (∀ i, i < len → -9223372036854775808 ≤ M i ∧ M i ≤ 9223372036854775807) ∧ (0 < len → ∃ b o, A = some ⟨b, o, none⟩ ∧ b < W.heap.size ∧ ∀ i, i < len → W.cell? ⟨b, o + i * 2, none⟩ = some (.int .i64 (D i)) ∧ W.cell? ⟨b, o + i * 2 + 1, none⟩ = some (.int .i64 (M i))) := by
  obtain ⟨fuel, hf⟩ := h
  rcases open_slice Tryd.underlying27 hf with ⟨hcs, _⟩ | ⟨a, l, c, m, n, D, Pl, hcs, _, hl, hm, hmm, _, hi⟩
  · simp [Value.cells] at hcs
    obtain ⟨rfl, rfl, rfl⟩ := hcs
    exact ⟨fun _ => 0, fun _ => 0, by omega, fun i h => absurd h (by omega), fun h => absurd h (by omega)⟩
  · simp [Value.cells] at hcs
    obtain ⟨rfl, rfl, rfl⟩ := hcs
    have hC : Tryd.prog.cellsOf 31 = 2 := by kernel_rfl
    have hmx : maxLen = 9223372036854775807 := by decide
    rw [hsp] at hmm
    have one : ∀ i, i < len → ∃ (x y : Int), W.cell? ((a.add (i * 2)).add 0) = some (.int .i64 x) ∧ W.cell? ((a.add (i * 2)).add 1) = some (.int .i64 y) ∧ -9223372036854775808 ≤ y ∧ y ≤ 9223372036854775807 := by
      intro i him
      obtain ⟨cs', hc, ht'⟩ := hi i (by simp at hmm; omega)
      rw [hC] at hc
      obtain ⟨ys, n', hn', hy, hlen, hyl, hfl⟩ := DataW.trod_struct Tryd.underlying31 ht'
      obtain ⟨_, hcl, hat⟩ := World.cells?_some hc
      match cs', hcl with
      | [c0, c1], _ =>
        have hys : ys.length = 2 := hyl
        have h3 : Tryd.prog.cellsOf 3 = 1 := by kernel_rfl
        have f0 : DataW.trod enc Tryd.prog W base sp held n' 3 (List.take (Tryd.prog.cellsOf 3) [c0, c1]) = ys[0]? := hfl 0 _ rfl
        have f1 : DataW.trod enc Tryd.prog W base sp held n' 3 (List.take (Tryd.prog.cellsOf 3) [c1]) = ys[1]? := hfl 1 _ rfl
        rw [h3, List.getElem?_eq_getElem (by omega)] at f0 f1
        obtain ⟨x, e0, _, _⟩ := DataW.trod_int Tryd.underlying3 f0
        obtain ⟨y, e1, hy1, hy2⟩ := DataW.trod_int Tryd.underlying3 f1
        simp at e0 e1
        subst e0 e1
        simp [Lit.wf] at hy2
        have hy3 : -9223372036854775808 ≤ y ∧ y ≤ 9223372036854775807 := hy2
        exact ⟨x, y, hat 0 (by omega), hat 1 (by omega), hy3.1, hy3.2⟩
    have hlen : len ≤ 9223372036854775807 := by omega
    rcases Nat.eq_zero_or_pos len with h0 | h0
    · exact ⟨fun _ => 0, fun _ => 0, hlen, fun i h => absurd h (by omega), fun h => absurd h (by omega)⟩
    obtain ⟨x, _, hx, _⟩ := one 0 h0
    obtain ⟨b, o, spot⟩ := a
    obtain rfl : spot = none := by simpa [Addr.add] using World.cell?_spot hx
    have hbl : b < W.heap.size := by have := cell_lt hx; simpa [Addr.add] using this
    have two : ∀ i, ∃ (x y : Int), i < len → W.cell? ⟨b, o + i * 2, none⟩ = some (.int .i64 x) ∧ W.cell? ⟨b, o + i * 2 + 1, none⟩ = some (.int .i64 y) ∧ -9223372036854775808 ≤ y ∧ y ≤ 9223372036854775807 := by
      intro i
      rcases Nat.lt_or_ge i len with hlt | hge
      · obtain ⟨x, y, e0, e1, e2⟩ := one i hlt
        simp only [add_plain, Nat.add_zero] at e0 e1
        exact ⟨x, y, fun _ => ⟨e0, e1, e2⟩⟩
      · exact ⟨0, 0, fun h => absurd h (by omega)⟩
    exact ⟨fun i => (two i).choose, fun i => (two i).choose_spec.choose, hlen, fun i hlt => ((two i).choose_spec.choose_spec hlt).2.2, fun _ => ⟨b, o, rfl, hbl, fun i hlt => ⟨((two i).choose_spec.choose_spec hlt).1, ((two i).choose_spec.choose_spec hlt).2.1⟩⟩⟩
end

/-- The slice '.slice A n c' holds n deeds below block B. -/
def Deeds (w : World) (B : Nat) (A : Option Addr) (n : Nat) (D M : Nat → Int) : Prop :=
  0 < n → ∃ b o, A = some ⟨b, o, none⟩ ∧ b < B ∧ ∀ i, i < n → w.cell? ⟨b, o + i * 2, none⟩ = some (.int .i64 (D i)) ∧ w.cell? ⟨b, o + i * 2 + 1, none⟩ = some (.int .i64 (M i))

theorem Deeds.below {w w' : World} {B : Nat} {A : Option Addr} {n : Nat} {D M : Nat → Int} (h : Deeds w B A n D M) (hb : Below B w w') : Deeds w' B A n D M := fun hn => by
  obtain ⟨b, o, e, hlt, hc⟩ := h hn
  refine ⟨b, o, e, hlt, fun i hi => ?_⟩
  obtain ⟨h0, h1⟩ := hc i hi
  exact ⟨(hb.cell (p := ⟨b, o + i * 2, none⟩) hlt).trans h0, (hb.cell (p := ⟨b, o + i * 2 + 1, none⟩) hlt).trans h1⟩

theorem and_one (v : Int) (v0 : 0 ≤ v) (v1 : v < 256) : bits .and .i64 v 1 = v % 2 := and_low v 1 (by omega) v0 (by omega)
theorem PB.hp {w : World} {kb kc n c p : Nat} {A : Option Addr} {zs : List Int} (h : PB w kb kc A n c zs p) : p ≤ 8 * n := by
  have h1 := h.pq
  have h2 := h.qn
  omega

set_option maxRecDepth 100000 in
set_option maxHeartbeats 2000000 in
theorem bits_walk (A : Option Addr) (n c : Nat) (zs : List Int) (A2 : Option Addr) (ln c2 : Nat) (D M : Nat → Int) (w : World) (ho : Ord w) (hb : Byt w w.heap.size A n c zs) (hd : Deeds w w.heap.size A2 ln D M) (hmr : ∀ i, i < ln → -9223372036854775808 ≤ M i ∧ M i ≤ 9223372036854775807) (hn : n ≤ 9223372036854775807) (hln : ln ≤ 9223372036854775807) :
    Calls Tryd.prog 4 #[.slice A n c, .slice A2 ln c2] w fun e w' => e = .returned (.bool true) ∧ Below w.heap.size w w' := by
  have HAW := Lib.hid (awake_any w ho)
  have HB := Lib.hid hb
  have HD := Lib.hid hd
  have HMR := Lib.hid hmr
  clear hb hd hmr ho
  by_cases h1 : 300 < n
  · go_enter Tryd.func4, Tryd.ntmps4
    go_wp2_with (go_at_call 10; refine HAW.out.mono ?_; rintro e w1 ⟨rfl, hb1⟩)
    go_ret
    exact ⟨rfl, hb1⟩
  by_cases h2 : 150 < ln
  · go_enter Tryd.func4, Tryd.ntmps4
    go_wp2_with (go_at_call 10; refine HAW.out.mono ?_; rintro e w1 ⟨rfl, hb1⟩)
    go_ret
    exact ⟨rfl, hb1⟩
  go_enter Tryd.func4, Tryd.ntmps4
  go_wp2_with (first
    | (go_at_call 10; refine HAW.out.mono ?_; rintro e w1 ⟨rfl, hb1⟩)
    | (go_at_call 13; refine (popenC A n c zs w1).mono ?_; rintro e w2 ⟨rfl, hpb0, hbel2, hsz2⟩))
  have HB2 := Lib.hid ((HB.out.below hb1 (Nat.le_refl _)).below (hbel2.mono hb1.size) (Nat.le_refl _))
  have HD2 := Lib.hid ((HD.out.below hb1).below (hbel2.mono hb1.size))
  have HBB := Lib.hid (hb1.trans (hbel2.mono hb1.size))
  have HS := Lib.hid hb1.size
  have HS2 : Hid (w.heap.size ≤ w2.heap.size) := Lib.hid (Nat.le_trans hb1.size hbel2.size)
  have HPB0 := Lib.hid hpb0
  obtain ⟨kc, hkc⟩ : ∃ kc, w1.heap.size = kc := ⟨_, rfl⟩
  rw [hkc] at HPB0 HS ⊢
  obtain ⟨kb, hkb⟩ : ∃ kb, kc + 1 = kb := ⟨_, rfl⟩
  have HSB : Hid (w.heap.size ≤ kb) := Lib.hid (by have := HS.out; omega)
  rw [hkb] at HPB0 ⊢
  have HNN : Hid (n ≤ 9223372036854775807) := Lib.hid hn
  have HLEN := Lib.hid HB.out.len
  clear hbel2 hpb0 hb1 hsz2 hkc hkb
  have hn3 : n ≤ 300 := by omega
  clear h1 hn
  go_loopw [6, 7, 8, 9, 10, 11] (fun at_ i a8 a9 a10 a11 wr => ∃ k p : Nat, k ≤ ln ∧ i = .int .i64 k ∧ at_ = .int .i64 p ∧ p ≤ 8 * n ∧ Hid (PB wr kb kc A n c zs p) ∧ Hid (Only2 kb kc w2 wr)) (fun _ i _ _ _ _ _ => ln - (intOf i).toNat)
  case atStart => exact ⟨0, 0, Nat.zero_le _, rfl, rfl, Nat.zero_le _, HPB0, Lib.hid (Only2.refl _ _ _)⟩
  case round =>
    obtain ⟨k, p, hk, rfl, rfl, hp, HPB, HON⟩ := hrel
    by_cases hlt : k < ln
    · have hbl := HON.out.below HSB.out HS.out HS2.out
      obtain ⟨b, o, rfl, HBO, hc⟩ := HD2.out.below hbl (by omega)
      have HYW := Lib.hid (HB2.out.below hbl (Nat.le_refl _))
      obtain ⟨x0, x1⟩ := hc k hlt
      obtain ⟨hm0, hm1⟩ := HMR.out k hlt
      obtain ⟨d, hdd⟩ : ∃ d, D k = d := ⟨_, rfl⟩
      obtain ⟨m, hmm⟩ : ∃ m, M k = m := ⟨_, rfl⟩
      rw [hdd] at x0
      rw [hmm] at x1 hm0 hm1
      have HBI := Lib.hid (fun W (h : PB W kb kc A n c zs p) (hy : Byt W w.heap.size A n c zs) => pbitC kb kc n c p w.heap.size A zs W h hy HSB.out HS.out (by omega))
      have HTK := Lib.hid (fun W (h : PB W kb kc A n c zs p) (hy : Byt W w.heap.size A n c zs) => ptakeC kb kc n c p w.heap.size m A zs W h hy HSB.out HS.out (by omega))
      have HAL := Lib.hid (fun W (h : PB W kb kc A n c zs p) => palignC kb kc n c p A zs W h)
      have HBO := Lib.hid HBO
      clear hc hbl hdd hmm
      by_cases hd2 : d ≤ 2
      · clear HTK HAL
        by_cases hpn : p < 8 * n
        · have hby := HYW.out
          obtain ⟨b', o', rfl, _, hc⟩ := hby.cell (by omega)
          obtain ⟨q, hq⟩ : ∃ q, p / 8 = q := ⟨_, rfl⟩
          obtain ⟨r, hr⟩ : ∃ r, p % 8 = r := ⟨_, rfl⟩
          have ck := hc q (by omega)
          have hgz := HYW.out.getD q
          have hbt : ptakeV zs p 1 = zs.getD q 0 / 2 ^ r % 2 := by
            unfold ptakeV
            rw [if_pos ⟨by omega, by omega, by rw [HLEN.out]; omega⟩]
            show bitsZ zs p 1 = _
            simp only [bitsZ, bitZ, Nat.add_zero]
            rw [hq, hr]
            omega
          have hpp : ptakeP zs p 1 = p + 1 := by
            unfold ptakeP
            rw [if_pos ⟨by omega, by omega, by rw [HLEN.out]; omega⟩]
            rfl
          obtain ⟨z, hz⟩ : ∃ z, zs.getD q 0 = z := ⟨_, rfl⟩
          rw [hz] at ck hgz hbt
          obtain ⟨z0, z1⟩ := hgz
          have hdz : 0 ≤ z / 2 ^ r ∧ z / 2 ^ r < 256 := by
            have h2 : (0 : Int) < 2 ^ r := Int.pow_pos (by omega)
            refine ⟨Int.ediv_nonneg z0 (Int.le_of_lt h2), ?_⟩
            have h3 : z / 2 ^ r ≤ z := Int.ediv_le_self _ z0
            omega
          have ea := and_one _ hdz.1 hdz.2
          rw [← hbt] at ea
          obtain ⟨v, hv⟩ : ∃ v, ptakeV zs p 1 = v := ⟨_, rfl⟩
          rw [hv] at ea HBI
          rw [hpp] at HBI
          have e1 : (p : Int) / 8 = q := by omega
          have e2 : (p : Int) % 8 = r := by omega
          have hr8 : (r : Int) < 8 := by omega
          have hpi : (p : Int) < 8 * (n : Int) := by omega
          have hqi : (q : Int) < n := by omega
          obtain ⟨Q, hQ⟩ : ∃ Q, (p + 1 + 7) / 8 = Q := ⟨_, rfl⟩
          have HQ := Lib.hid hQ
          have e4 : ((p : Int) + 1 + 7) / 8 = Q := by omega
          clear hby hc hz hbt hv hq hr hpp hQ
          go_wp2_with (first
            | (go_at_call 14; refine (HBI.out _ (by first | exact HPB.out | exact HPB.out.drewN _ | exact (HPB.out.drewN _).drewN _) (by first | exact HYW.out | exact HYW.out.turn rfl)).mono ?_; rintro e w3 ⟨rfl, hp3, ho3⟩; have HP3 := Lib.hid hp3; have HO3 := Lib.hid ((show Only2 kb kc w2 _ from (by first | exact HON.out | exact HON.out.drewN _ | exact (HON.out.drewN _).drewN _)).trans ho3); have c3 := HP3.out.c0;  clear hp3 ho3) | (go_at_call 19; refine (pos_any _ _ _ _ _ _ HP3.out.cur).mono ?_; rintro e w' ⟨rfl, rfl⟩; rw [HQ.out]) | (go_at_call 20; refine (left_any _ _ _ _ _ _ HP3.out.cur HP3.out.qn HNN.out).mono ?_; rintro e w' ⟨rfl, rfl⟩; rw [HQ.out]))
          go_roundw
          case rel => exact ⟨k + 1, p + 1, by omega, by go_num, by go_num, by omega, HP3, HO3⟩
          case measure => simp [intOf]; omega
        · have hbt : ptakeV zs p 1 = -1 := by
            unfold ptakeV
            rw [if_neg (by rw [HLEN.out]; omega)]
          have hpp : ptakeP zs p 1 = p := by
            unfold ptakeP
            rw [if_neg (by rw [HLEN.out]; omega)]
          rw [hbt, hpp] at HBI
          have hpi : ¬ (p : Int) < 8 * (n : Int) := by omega
          obtain ⟨Q, hQ⟩ : ∃ Q, (p + 7) / 8 = Q := ⟨_, rfl⟩
          have HQ := Lib.hid hQ
          have e4 : ((p : Int) + 7) / 8 = Q := by omega
          clear hbt hpp hQ
          go_wp2_with (first
            | (go_at_call 14; refine (HBI.out _ (by first | exact HPB.out | exact HPB.out.drewN _ | exact (HPB.out.drewN _).drewN _) (by first | exact HYW.out | exact HYW.out.turn rfl)).mono ?_; rintro e w3 ⟨rfl, hp3, ho3⟩; have HP3 := Lib.hid hp3; have HO3 := Lib.hid ((show Only2 kb kc w2 _ from (by first | exact HON.out | exact HON.out.drewN _ | exact (HON.out.drewN _).drewN _)).trans ho3); have c3 := HP3.out.c0;  clear hp3 ho3) | (go_at_call 19; refine (pos_any _ _ _ _ _ _ HP3.out.cur).mono ?_; rintro e w' ⟨rfl, rfl⟩; rw [HQ.out]) | (go_at_call 20; refine (left_any _ _ _ _ _ _ HP3.out.cur HP3.out.qn HNN.out).mono ?_; rintro e w' ⟨rfl, rfl⟩; rw [HQ.out]))
          go_roundw
          case rel => exact ⟨k + 1, p, by omega, by go_num, rfl, by omega, HP3, HO3⟩
          case measure => simp [intOf]; omega
      · clear HBI
        by_cases hd6 : d ≤ 6
        · clear HAL
          by_cases hok : 0 ≤ m ∧ m ≤ 16 ∧ (p : Int) + m ≤ 8 * n
          · obtain ⟨ok0, ok1, ok2⟩ := hok
            obtain ⟨N, rfl⟩ : ∃ N : Nat, m = N := ⟨m.toNat, by omega⟩
            have hbt : ptakeV zs p (N : Int) = bitsZ zs p N := by
              unfold ptakeV
              rw [if_pos ⟨by omega, by omega, by rw [HLEN.out]; omega⟩]
              rfl
            have hpp : ptakeP zs p (N : Int) = p + N := by
              unfold ptakeP
              rw [if_pos ⟨by omega, by omega, by rw [HLEN.out]; omega⟩]
              rfl
            rw [hbt, hpp] at HTK
            have hN16 : (N : Int) ≤ 16 := by omega
            have hNr : (N : Int) ≤ 8 * (n : Int) - p := by omega
            clear hbt hpp ok1 ok2
            go_wp2_with fail
            go_loopw [6, 10, 11] (fun at_ v i wq => ∃ j : Nat, j ≤ N ∧ i = .int .i64 j ∧ v = .int .i64 (bitsZ zs p j) ∧ at_ = .int .i64 ((p + j : Nat) : Int) ∧ Hid (PB wq kb kc A n c zs p) ∧ Hid (Only2 kb kc w2 wq)) (fun _ _ i _ => N - (intOf i).toNat)
            case atStart => exact ⟨0, Nat.zero_le _, rfl, rfl, rfl, Lib.hid (by first | exact HPB.out | exact HPB.out.drewN _ | exact (HPB.out.drewN _).drewN _), Lib.hid (by first | exact HON.out | exact HON.out.drewN _ | exact (HON.out.drewN _).drewN _)⟩
            case round =>
              obtain ⟨j, hj, rfl, rfl, rfl, HPB, HON⟩ := hrel
              have HYW := Lib.hid (HB2.out.below (HON.out.below HSB.out HS.out HS2.out) (Nat.le_refl _))
              by_cases hjn : j < N
              · have hby := HYW.out
                obtain ⟨b', o', rfl, _, hc⟩ := hby.cell (by omega)
                obtain ⟨q, hq⟩ : ∃ q, (p + j) / 8 = q := ⟨_, rfl⟩
                obtain ⟨r, hr⟩ : ∃ r, (p + j) % 8 = r := ⟨_, rfl⟩
                have ck := hc q (by omega)
                have hgz := HYW.out.getD q
                have hbt : bitZ zs (p + j) = zs.getD q 0 / 2 ^ r % 2 := by unfold bitZ; rw [hq, hr]
                obtain ⟨z, hz⟩ : ∃ z, zs.getD q 0 = z := ⟨_, rfl⟩
                rw [hz] at ck hgz hbt
                obtain ⟨z0, z1⟩ := hgz
                have hstep : bitsZ zs p (j + 1) = bitsZ zs p j + bitZ zs (p + j) * 2 ^ j := rfl
                have hvb := bitsZ_bd zs p j
                have hxb := bitZ_bd zs (p + j)
                have hp16 := pow_le16 j (by omega)
                obtain ⟨v, hv⟩ : ∃ v, bitsZ zs p j = v := ⟨_, rfl⟩
                obtain ⟨x, hx⟩ : ∃ x, bitZ zs (p + j) = x := ⟨_, rfl⟩
                rw [hx] at hbt hstep hxb
                rw [hv] at hstep hvb ⊢
                have hdz : 0 ≤ z / 2 ^ r ∧ z / 2 ^ r < 256 := by
                  have h2 : (0 : Int) < 2 ^ r := Int.pow_pos (by omega)
                  refine ⟨Int.ediv_nonneg z0 (Int.le_of_lt h2), ?_⟩
                  have h3 : z / 2 ^ r ≤ z := Int.ediv_le_self _ z0
                  omega
                obtain ⟨P, hP⟩ : ∃ P, p + j = P := ⟨_, rfl⟩
                rw [hP] at hq hr ⊢
                have e1 : (P : Int) / 8 = q := by omega
                have e2 : (P : Int) % 8 = r := by omega
                have e3 : bits .and .u8 (z / 2 ^ r) 1 = x := by rw [and_bit _ hdz.1 hdz.2]; exact hbt.symm
                have hxy : x * 2 ^ j ≤ 65536 ∧ 0 ≤ x * 2 ^ j := by
                  rcases (show x = 0 ∨ x = 1 by omega) with h | h
                  · rw [h]; omega
                  · rw [h]; omega
                have e4 : IntKind.i64.wrap (x * 2 ^ j) = x * 2 ^ j := IntWalk.i64_in _ (by omega)
                have e5 : bits .or .i64 v (x * 2 ^ j) = v + x * 2 ^ j := or_bit v x j (by omega) hvb.1 hvb.2 hxb.1 hxb.2
                have HST := Lib.hid hstep
                have HPE := Lib.hid hP
                have hpk : (P : Int) ≤ 2400 := by omega
                have hr8 : (r : Int) < 8 := by omega
                have hk16 : (j : Int) < 16 := by omega
                have hqi : (q : Int) < n := by omega
                clear hby hc hbt hz hv hx hstep hq hr hvb hxy hp16 hP x0 x1
                go_wp2_with fail
                go_roundw
                case rel => exact ⟨j + 1, by omega, by go_num, by rw [HST.out], by have := HPE.out; go_num, Lib.hid (by first | exact HPB.out | exact HPB.out.drewN _ | exact (HPB.out.drewN _).drewN _), Lib.hid (by first | exact HON.out | exact HON.out.drewN _ | exact (HON.out.drewN _).drewN _)⟩
                case measure => simp [intOf]; omega
              · obtain rfl : j = N := by omega
                obtain ⟨V, hV⟩ : ∃ V, bitsZ zs p j = V := ⟨_, rfl⟩
                obtain ⟨P, hP⟩ : ∃ P, p + j = P := ⟨_, rfl⟩
                rw [hV, hP] at HTK ⊢
                obtain ⟨Q, hQ⟩ : ∃ Q, (P + 7) / 8 = Q := ⟨_, rfl⟩
                have HQ := Lib.hid hQ
                have e4 : ((P : Int) + 7) / 8 = Q := by omega
                have hP8 : P ≤ 8 * n := by omega
                clear hV hP hQ x0 x1
                go_wp2_with (first
                  | (go_at_call 15; refine (HTK.out _ (by first | exact HPB.out | exact HPB.out.drewN _ | exact (HPB.out.drewN _).drewN _) (by first | exact HYW.out | exact HYW.out.turn rfl)).mono ?_; rintro e w3 ⟨rfl, hp3, ho3⟩; have HP3 := Lib.hid hp3; have HO3 := Lib.hid ((show Only2 kb kc w2 _ from (by first | exact HON.out | exact HON.out.drewN _ | exact (HON.out.drewN _).drewN _)).trans ho3); have c3 := HP3.out.c0;  clear hp3 ho3) | (go_at_call 19; refine (pos_any _ _ _ _ _ _ HP3.out.cur).mono ?_; rintro e w' ⟨rfl, rfl⟩; rw [HQ.out]) | (go_at_call 20; refine (left_any _ _ _ _ _ _ HP3.out.cur HP3.out.qn HNN.out).mono ?_; rintro e w' ⟨rfl, rfl⟩; rw [HQ.out]))
                go_roundw
                case rel => exact ⟨k + 1, P, by omega, by go_num, rfl, by omega, HP3, HO3⟩
                case measure => simp [intOf]; omega
          have hbt : ptakeV zs p m = -1 := by
            unfold ptakeV
            rw [if_neg (by rw [HLEN.out]; exact hok)]
          have hpp : ptakeP zs p m = p := by
            unfold ptakeP
            rw [if_neg (by rw [HLEN.out]; exact hok)]
          rw [hbt, hpp] at HTK
          obtain ⟨Q, hQ⟩ : ∃ Q, (p + 7) / 8 = Q := ⟨_, rfl⟩
          have HQ := Lib.hid hQ
          have e4 : ((p : Int) + 7) / 8 = Q := by omega
          have hcs : m < 0 ∨ (0 ≤ m ∧ 16 < m) ∨ (0 ≤ m ∧ m ≤ 16 ∧ ¬ m ≤ 8 * (n : Int) - p) := by omega
          clear hbt hpp hQ hok
          rcases hcs with hc1 | ⟨hc1, hc3⟩ | ⟨hc1, hc3, hc4⟩
          · go_wp2_with (first
              | (go_at_call 15; refine (HTK.out _ (by first | exact HPB.out | exact HPB.out.drewN _ | exact (HPB.out.drewN _).drewN _) (by first | exact HYW.out | exact HYW.out.turn rfl)).mono ?_; rintro e w3 ⟨rfl, hp3, ho3⟩; have HP3 := Lib.hid hp3; have HO3 := Lib.hid ((show Only2 kb kc w2 _ from (by first | exact HON.out | exact HON.out.drewN _ | exact (HON.out.drewN _).drewN _)).trans ho3); have c3 := HP3.out.c0;  clear hp3 ho3) | (go_at_call 19; refine (pos_any _ _ _ _ _ _ HP3.out.cur).mono ?_; rintro e w' ⟨rfl, rfl⟩; rw [HQ.out]) | (go_at_call 20; refine (left_any _ _ _ _ _ _ HP3.out.cur HP3.out.qn HNN.out).mono ?_; rintro e w' ⟨rfl, rfl⟩; rw [HQ.out]))
            go_roundw
            case rel => exact ⟨k + 1, p, by omega, by go_num, rfl, by omega, HP3, HO3⟩
            case measure => simp [intOf]; omega
          · go_wp2_with (first
              | (go_at_call 15; refine (HTK.out _ (by first | exact HPB.out | exact HPB.out.drewN _ | exact (HPB.out.drewN _).drewN _) (by first | exact HYW.out | exact HYW.out.turn rfl)).mono ?_; rintro e w3 ⟨rfl, hp3, ho3⟩; have HP3 := Lib.hid hp3; have HO3 := Lib.hid ((show Only2 kb kc w2 _ from (by first | exact HON.out | exact HON.out.drewN _ | exact (HON.out.drewN _).drewN _)).trans ho3); have c3 := HP3.out.c0;  clear hp3 ho3) | (go_at_call 19; refine (pos_any _ _ _ _ _ _ HP3.out.cur).mono ?_; rintro e w' ⟨rfl, rfl⟩; rw [HQ.out]) | (go_at_call 20; refine (left_any _ _ _ _ _ _ HP3.out.cur HP3.out.qn HNN.out).mono ?_; rintro e w' ⟨rfl, rfl⟩; rw [HQ.out]))
            go_roundw
            case rel => exact ⟨k + 1, p, by omega, by go_num, rfl, by omega, HP3, HO3⟩
            case measure => simp [intOf]; omega
          · go_wp2_with (first
              | (go_at_call 15; refine (HTK.out _ (by first | exact HPB.out | exact HPB.out.drewN _ | exact (HPB.out.drewN _).drewN _) (by first | exact HYW.out | exact HYW.out.turn rfl)).mono ?_; rintro e w3 ⟨rfl, hp3, ho3⟩; have HP3 := Lib.hid hp3; have HO3 := Lib.hid ((show Only2 kb kc w2 _ from (by first | exact HON.out | exact HON.out.drewN _ | exact (HON.out.drewN _).drewN _)).trans ho3); have c3 := HP3.out.c0;  clear hp3 ho3) | (go_at_call 19; refine (pos_any _ _ _ _ _ _ HP3.out.cur).mono ?_; rintro e w' ⟨rfl, rfl⟩; rw [HQ.out]) | (go_at_call 20; refine (left_any _ _ _ _ _ _ HP3.out.cur HP3.out.qn HNN.out).mono ?_; rintro e w' ⟨rfl, rfl⟩; rw [HQ.out]))
            go_roundw
            case rel => exact ⟨k + 1, p, by omega, by go_num, rfl, by omega, HP3, HO3⟩
            case measure => simp [intOf]; omega
        clear HTK
        obtain ⟨Q, hQ⟩ : ∃ Q, (p + 7) / 8 = Q := ⟨_, rfl⟩
        have hpa : palgn p = 8 * Q := by unfold palgn; omega
        rw [hpa] at HAL
        have e4 : ((p : Int) + 7) / 8 = Q := by omega
        have hQn : Q ≤ n := by omega
        clear hpa hQ
        by_cases hd7 : d = 7
        · subst hd7
          have HQ : Hid ((8 * Q + 7) / 8 = Q) := Lib.hid (by omega)
          have e5 : ((Q : Int) * 8 + 7) / 8 = Q := by omega
          go_wp2_with (first
            | (go_at_call 16; refine (HAL.out _ (by first | exact HPB.out | exact HPB.out.drewN _ | exact (HPB.out.drewN _).drewN _)).mono ?_; rintro e w3 ⟨rfl, hp3, ho3⟩; have HP3 := Lib.hid hp3; have HO3 := Lib.hid ((show Only2 kb kc w2 _ from (by first | exact HON.out | exact HON.out.drewN _ | exact (HON.out.drewN _).drewN _)).trans ho3); have c3 := HP3.out.c0;  clear hp3 ho3) | (go_at_call 19; refine (pos_any _ _ _ _ _ _ HP3.out.cur).mono ?_; rintro e w' ⟨rfl, rfl⟩; rw [HQ.out]) | (go_at_call 20; refine (left_any _ _ _ _ _ _ HP3.out.cur HP3.out.qn HNN.out).mono ?_; rintro e w' ⟨rfl, rfl⟩; rw [HQ.out]))
          go_roundw
          case rel => exact ⟨k + 1, 8 * Q, by omega, by go_num, by go_num, by omega, HP3, HO3⟩
          case measure => simp [intOf]; omega
        have hd7b : (d == 7) = false := beq_eq_false_iff_ne.2 hd7
        have e6 : (Q : Int) * 8 / 8 = Q := by omega
        rcases Nat.lt_or_ge Q n with hQl | hQg
        · obtain ⟨R, hR⟩ : ∃ R, Q + 1 = R := ⟨_, rfl⟩
          have HQ : Hid ((8 * (Q + 1) + 7) / 8 = R) := Lib.hid (by omega)
          have HQ1 : Hid (Q + 1 ≤ n) := Lib.hid (by omega)
          have HQL : Hid (Q < n) := Lib.hid hQl
          have HN6 : Hid (n ≤ 1000000) := Lib.hid (by omega)
          have e5 : ((Q : Int) * 8 + 8 + 7) / 8 = R := by omega
          have em : ¬ 8 * (n : Int) < (Q : Int) * 8 + 8 := by omega
          have em2 : min ((Q : Int) * 8 + 8) (8 * (n : Int)) = (Q : Int) * 8 + 8 := by omega
          clear hR
          go_wp2_with (first
            | (go_at_call 16; refine (HAL.out _ (by first | exact HPB.out | exact HPB.out.drewN _ | exact (HPB.out.drewN _).drewN _)).mono ?_; rintro e w3 ⟨rfl, hp3, ho3⟩; have HPA := Lib.hid hp3; have HOA := Lib.hid ((show Only2 kb kc w2 _ from (by first | exact HON.out | exact HON.out.drewN _ | exact (HON.out.drewN _).drewN _)).trans ho3); have HYA := Lib.hid (HB2.out.below (HOA.out.below HSB.out HS.out HS2.out) (Nat.le_refl _)); have HCU : Hid (Cur w3 kc A n c Q) := Lib.hid (by have h := hp3.cur; rw [show (8 * Q + 7) / 8 = Q by omega] at h; exact h); have c2 := HPA.out.c0; clear hp3 ho3)
            | (go_at_call 17; refine (next_in kc n c Q w.heap.size A zs _ HCU.out HYA.out HQL.out HN6.out).mono ?_; rintro e w4 ⟨rfl, hc4, ho4⟩; have HP3 := Lib.hid (HPA.out.byte ho4 hc4 HQ1.out); have HO3 := Lib.hid (HOA.out.trans (ho4.o2 kb)); have HY3 := Lib.hid (HB2.out.below (HO3.out.below HSB.out HS.out HS2.out) (Nat.le_refl _)); have c3 := HP3.out.c0;  clear hc4 ho4)
            | (go_at_call 18; refine (refPeek_any A n c w.heap.size zs Q _ HY3.out HN6.out).mono ?_; rintro e w' ⟨rfl, rfl⟩) | (go_at_call 19; refine (pos_any _ _ _ _ _ _ HP3.out.cur).mono ?_; rintro e w' ⟨rfl, rfl⟩; rw [HQ.out]) | (go_at_call 20; refine (left_any _ _ _ _ _ _ HP3.out.cur HP3.out.qn HNN.out).mono ?_; rintro e w' ⟨rfl, rfl⟩; rw [HQ.out]))
          go_roundw
          case rel => exact ⟨k + 1, 8 * (Q + 1), by omega, by go_num, by go_num, by omega, HP3, HO3⟩
          case measure => simp [intOf]; omega
        · obtain rfl : Q = n := by omega
          have HQ : Hid ((8 * Q + 7) / 8 = Q) := Lib.hid (by omega)
          have HN6 : Hid (Q ≤ 1000000) := Lib.hid (by omega)
          have HE := Lib.hid (peekZ_out zs Q (by rw [HLEN.out]; omega))
          have e5 : (8 * (Q : Int) + 7) / 8 = Q := by omega
          have em : 8 * (Q : Int) < (Q : Int) * 8 + 8 := by omega
          have em2 : min ((Q : Int) * 8 + 8) (8 * (Q : Int)) = 8 * (Q : Int) := by omega
          go_wp2_with (first
            | (go_at_call 16; refine (HAL.out _ (by first | exact HPB.out | exact HPB.out.drewN _ | exact (HPB.out.drewN _).drewN _)).mono ?_; rintro e w3 ⟨rfl, hp3, ho3⟩; have HP3 := Lib.hid hp3; have HO3 := Lib.hid ((show Only2 kb kc w2 _ from (by first | exact HON.out | exact HON.out.drewN _ | exact (HON.out.drewN _).drewN _)).trans ho3); have HYA := Lib.hid (HB2.out.below (HO3.out.below HSB.out HS.out HS2.out) (Nat.le_refl _)); have HCU : Hid (Cur w3 kc A Q c Q) := Lib.hid (by have h := hp3.cur; rw [show (8 * Q + 7) / 8 = Q by omega] at h; exact h); have c3 := HP3.out.c0;  clear hp3 ho3)
            | (go_at_call 17; refine (next_out kc Q c A zs _ HCU.out HLEN.out HN6.out).mono ?_; rintro e w4 ⟨rfl, rfl⟩)
            | (go_at_call 18; refine (refPeek_any A Q c w.heap.size zs Q _ HYA.out HN6.out).mono ?_; rintro e w' ⟨rfl, rfl⟩; rw [HE.out]) | (go_at_call 19; refine (pos_any _ _ _ _ _ _ HP3.out.cur).mono ?_; rintro e w' ⟨rfl, rfl⟩; rw [HQ.out]) | (go_at_call 20; refine (left_any _ _ _ _ _ _ HP3.out.cur HP3.out.qn HNN.out).mono ?_; rintro e w' ⟨rfl, rfl⟩; rw [HQ.out]))
          go_roundw
          case rel => exact ⟨k + 1, 8 * Q, by omega, by go_num, by go_num, by omega, HP3, HO3⟩
          case measure => simp [intOf]; omega
    · have HON := Lib.hid HON.out
      clear HPB
      go_wp2
      go_ret
      exact ⟨rfl, HBB.out.trans (HON.out.below HSB.out HS.out HS2.out)⟩
set_option maxRecDepth 100000 in
theorem ibits_lifted (os : Os) (started : os.Started) (H : Type) (enc : TypeId × Value → H) :
    ReturnsInHanded {} Tryd.checked os 4 .any (fun w args => (Rows.inflateBitsSpec.pre enc Tryd.prog Tryd.f4 Rows.inflateBitsRow.domain false w args ∧ laidMetH Tryd.prog Rows.inflateBitsRow.laid w) ∧ sizedMet enc Tryd.prog Tryd.f4 (OpenSpec.ofChange Rows.inflateBitsSpec) false w args) (Rows.inflateBitsSpec.post enc Tryd.prog Tryd.f4 false true false false) := by
  refine returnsInHanded_of_change_and (C := Tryd.checked) (X := fun w _ => laidMetH Tryd.prog Rows.inflateBitsRow.laid w) (fun _ _ _ hh h => h.of_heap hh) own started (by kernel_rfl) Tryd.func4
    (ChangeSpec.witness_shaped (enc := enc) (C := Tryd.checked) (os := os) (X := fun w _ => laidMetH Tryd.prog Rows.inflateBitsRow.laid w) false (World.laidAll Tryd.prog os Rows.inflateBitsRow.laid) #[.slice none 0 0, .slice none 0 0] 8 (World.laidAll_os _ _ _)
      (World.shaped_of_ZipB (by kernel_rfl) (by kernel_rfl)) (by kernel_rfl) (by kernel_rfl) (by kernel_rfl)
      (by rw [MakeChecks.laidMetH_plain _ _ _ (by kernel_rfl)]; exact laidMet_laidAll _ (by kernel_rfl) (by kernel_rfl))) ?_
  intro W base args ds gs before hval0 hW hcnd _ hL _
  have hord : Ord W := ord_of_laid hL
  clear hL
  have hval : ∀ (j : Nat) t v, Tryd.f4.params[j]? = some t → args[j]? = some v → Value.okWide Tryd.prog W .any base t v := hval0
  have hW' := hW
  obtain ⟨p, q, hA0, hV, rfl, hfz, hnd⟩ := hW
  have hA : DataW.TrodAll enc Tryd.prog W 0 (fun _ => true) true Tryd.f4.params.toList args.toList ds p := hA0
  rw [Tryd.params4] at hA hval
  obtain ⟨v0, vs0, d0, ds0, p0, q0, hargs, rfl, rfl, h0, r0⟩ := trodAll_cons hA
  obtain ⟨v1, vs1, d1, ds1, p1, q1, rfl, rfl, rfl, h1, r1⟩ := trodAll_cons r0
  obtain ⟨rfl, rfl, rfl⟩ := trodAll_nil r1
  obtain rfl : args = #[v0, v1] := by cases args; simp_all
  obtain ⟨rfl, rfl⟩ := trodVars_none hV
  obtain ⟨a0, len0, cap0, rfl⟩ := okWide_slice Tryd.underlying23 (hval 0 23 v0 rfl rfl)
  obtain ⟨zs0, hz0, hcm0⟩ := open_bytes h0 (fun _ => rfl)
  have lt0 : ∀ x ∈ p0, x.block < W.heap.size := by obtain ⟨m, hm⟩ := h0; exact DataW.trod_lt m _ _ _ hm
  obtain ⟨a1, len1, cap1, rfl⟩ := okWide_slice Tryd.underlying27 (hval 1 27 v1 rfl rfl)
  have lt1 : ∀ x ∈ p1, x.block < W.heap.size := by obtain ⟨m, hm⟩ := h1; exact DataW.trod_lt m _ _ _ hm
  obtain ⟨D, M, hln, hmr, hds⟩ := open_deeds h1 (fun _ => rfl)
  have hmx : maxLen = 9223372036854775807 := by decide
  clear hA0 hval0
  refine (bits_walk a0 len0 cap0 zs0 a1 len1 cap1 D M W hord hz0 hds hmr (by have := hz0.cap; omega) hln).mono fun e W' ⟨he, bel⟩ => ?_
  subst he
  exact ⟨_, rfl, _, _, _, [], _, [], hW', trodAll_mk1 (shut_bool Tryd.underlying4 _), (trodAll_cons_mk (Below.trod laidOut (by kernel_rfl) (of_decide_eq_true (by kernel_rfl)) h0 bel lt0) (trodAll_cons_mk (Below.trod laidOut (by kernel_rfl) (of_decide_eq_true (by kernel_rfl)) h1 bel lt1) trodAll_mk0)), rfl, bel.frame _, fun h => by cases h⟩

/-- InflateBits: it answers true. -/
theorem ibits_holds : Rows.InflateBitsSaid :=
  OpenClaim.holds_of_wide 4 Tryd.f4 rfl rfl rfl rfl rfl rfl rfl ⟨rfl, rfl, rfl, rfl, rfl⟩ rfl rfl rfl rfl rfl (by kernel_rfl) Tryd.func4 (by kernel_rfl)
    (of_decide_eq_true (by kernel_rfl)) (by unfold Func.isWrapper; first | (rw [if_pos (by decide +kernel)]; kernel_rfl) | (rw [if_neg (by decide +kernel)]; exact ⟨rfl, rfl⟩))
    (fun os started H enc _ => ibits_lifted os started H enc)
/-- The card of InflateBits: what its row lists is tied to the program's text. -/
theorem ibits_card : Rows.InflateBitsCardSaid :=
  Claim7.holds_tied_plain_at .later [] [.data] true Rows.inflateBitsCard.stood.harness false ibits_holds (fun _ h => by cases h) (by kernel_rfl) (fun _ h => by cases h) inflateBits_row_tie rfl ⟨rfl, rfl⟩ (by kernel_rfl) rfl
    (fun f fn hf hfn => by
      obtain rfl : f = 4 := Option.some.inj ((show Tryd.prog.funcNamed "pressmark/pressmarklaw4.InflateBits" = some 4 by kernel_rfl).symm.trans hf) |>.symm
      obtain rfl : fn = Tryd.f4 := (Option.some.inj (Tryd.func4.symm.trans hfn)).symm
      exact ⟨by kernel_rfl, fun j t ht => by
        rw [Tryd.params4] at ht
        have hm : t ∈ [23, 27] := by simpa using Array.mem_of_getElem? ht
        have hall : ([23, 27].all fun u => !Tryd.prog.wantsStandIn u) = true := by kernel_rfl
        exact (show Tryd.prog.wantsStandIn t = false by simpa using List.all_eq_true.1 hall t hm)⟩)
    (by kernel_rfl)
#print axioms ibits_card
end Go.Proofs.YtgglgpgieeibnaaDoor
