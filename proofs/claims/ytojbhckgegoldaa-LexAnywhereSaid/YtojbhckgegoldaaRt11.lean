/- Chapter 11, the document's own lexer: texts. -/
import Derived.Test.YtojbhckgegoldaaRe11
import Derived.Test.YtojbhckgegoldaaLz11
namespace Go.Proofs.Ytojbhckgegoldaa
open Go.RowKit
set_option linter.unusedVariables false
set_option maxRecDepth 100000

theorem rdeol {w W : World} {m n c q B : Nat} {T : TypeId} {X : List Value} {A : Option Addr} {v : Value} {out zs : List Int} (x : DS w W m T X A n c q v out) (hb : Byt w B A n c zs) (hB : B ≤ m) (hn : n ≤ 1000000) (hq : q ≤ 1000001) :
    Calls Try.prog 69 #[.pointer (some ⟨m, 0, none⟩)] W fun e w' => e = .returned (.bool (eolZ zs q).1) ∧ DS w w' m T X A n c (eolZ zs q).2 v out :=
  (reolC m n c q B T X A zs W x.ld (hb.only x.ol hB (Nat.le_of_lt x.lm)) hB hn hq).mono fun _ _ ⟨h1, h2, h3⟩ => ⟨h1, x.moved h2 h3⟩
theorem rdesc {w W : World} {m n c q B : Nat} {T : TypeId} {X : List Value} {A : Option Addr} {v : Value} {out zs : List Int} (x : DS w W m T X A n c q v out) (hb : Byt w B A n c zs) (hB : B ≤ m) (hn : n ≤ 1000000) (hq : q < n) :
    Calls Try.prog 68 #[.pointer (some ⟨m, 0, none⟩)] W fun e w' => e = .returned (.int .i64 (escZ zs q).1) ∧ DS w w' m T X A n c (escZ zs q).2 v out :=
  (rescC m n c q B T X A zs W x.ld (hb.only x.ol hB (Nat.le_of_lt x.lm)) hB hn hq).mono fun _ _ ⟨h1, h2, h3⟩ => ⟨h1, x.moved h2 h3⟩

set_option maxHeartbeats 8000000 in
theorem rtextC (m n c p B : Nat) (T : TypeId) (X : List Value) (A : Option Addr) (zs : List Int) (w : World) (h : LD w m T X A n c p) (hb : Byt w B A n c zs) (hB : B ≤ m) (hn : n ≤ 1000000) (hp : p ≤ n) :
    Calls Try.prog 51 #[.pointer (some ⟨m, 0, none⟩)] w (DnP m T X A n c (textF zs (zs.length + 1) p 1 []) w) := by
  have HD0 := Lib.hid (DS.start h)
  have HB := Lib.hid hb
  have HL := Lib.hid hb.len
  have HPP := Lib.hid (fun q (hq : q ≤ n + 5) W v out (x : DS w W m T X A n c q v out) => rdk0 x hb hB hn (by omega))
  have HEE := Lib.hid (fun q (hq : q ≤ n) W v out (x : DS w W m T X A n c q v out) => rdeol x hb hB hn (by omega))
  have HSS := Lib.hid (fun q (hq : q < n) W v out (x : DS w W m T X A n c q v out) => rdesc x hb hB hn hq)
  obtain ⟨R, hR⟩ : ∃ R, textF zs (zs.length + 1) p 1 [] = R := ⟨_, rfl⟩
  rw [hR]
  have HR := Lib.hid hR
  clear h hb hR
  go_enter Try.func51, Try.ntmps51
  go_wp2_with fail
  go_loopg [4, 5, 6] (n + 1) (fun gk s4 s5 s6 wr => ∃ (q : Nat) (k : Int) (out : List Int), s5 = .int .i64 k ∧ Hid (DS w wr m T X A n c q s4 out) ∧ Hid (textF zs gk q k out = R) ∧ Hid (n < gk + q) ∧ Hid (q ≤ n) ∧ Hid (out.length ≤ 32767) ∧ Hid (1 ≤ k ∧ k ≤ q + 1))
  case atStart => exact ⟨p, 1, [], rfl, HD0, Lib.hid (by rw [← HL.out]; exact HR.out), Lib.hid (by omega), Lib.hid hp, Lib.hid (by simp), Lib.hid (by omega)⟩
  case round =>
    obtain ⟨q, k, out, rfl, HD, HF, HG, HQ, HOL, HK⟩ := hrel
    have hgk : ∃ f, gk = f + 1 := ⟨gk - 1, by have := HQ.out; have := HG.out; omega⟩
    obtain ⟨f, rfl⟩ := hgk
    obtain ⟨A', c', rfl, _, _⟩ := HD.out.byt
    have HP0 := Lib.hid (HPP.out q (by have := HQ.out; omega))
    have hbd := peekZ_bd zs HB.out.rng (q : Int)
    obtain ⟨y, hy⟩ : ∃ y, peekZ zs (q : Int) = y := ⟨_, rfl⟩
    rw [hy] at HP0 hbd
    have HY := Lib.hid hy
    by_cases hlt : y < 0
    · obtain rfl : y = -1 := by omega
      have HR2 : Hid (R.1 = 2) := Lib.hid (text_end zs f q k out R HF.out (by
        rcases Nat.lt_or_ge q zs.length with hq | hq
        · exfalso
          have h1 := peekZ_in zs q hq
          rw [getD_eq zs q hq] at h1
          have := (HB.out.rng _ (List.getElem_mem hq)).1
          omega
        · exact hq))
      clear hlt hbd hy
      go_wp2_with (first
        | (go_at_call 37; (with_reducible refine (HP0.out _ _ _ (HD.out)).mono ?_); (rintro r wa ⟨rfl, hda⟩); (try dsimp only); have HD := Lib.hid hda; have c1 := hda.ld.c1; have cf := hda.ld.fr 1; clear hda))
      go_ret2
      exact DnP.bad HD.out 2 HR2.out (by decide)
    · have hq : q < zs.length := peekZ_lt zs q (by omega)
      have hqn : q < n := by have := HL.out; omega
      have HQL := Lib.hid hq
      have HQN := Lib.hid hqn
      have hkk := HK.out
      have w1 : IntKind.i64.wrap ((q : Int) + 1) = (q : Int) + 1 := IntWalk.i64_in _ (by omega)
      have HQ1 : Hid ((q : Int) + 1 = ((q + 1 : Nat) : Int)) := Lib.hid (by omega)
      have c1 := HD.out.ld.c1
      have cf := HD.out.ld.fr 1
      have hneg : decide (y < 0) = false := decide_eq_false hlt
      clear hq hqn
      obtain rfl | rfl | rfl | rfl | rfl | hy1 : y = 40 ∨ y = 41 ∨ y = 13 ∨ y = 10 ∨ y = 92 ∨ (y ≠ 40 ∧ y ≠ 41 ∧ y ≠ 13 ∧ y ≠ 10 ∧ y ≠ 92) := by omega
      · have hpc : pcZ zs q = (40, q + 1, 1) := by simp [pcZ, hy]
        have HEO := Lib.hid (HEE.out q HQ.out)
        unfold eolZ at HEO
        rw [hy] at HEO
        rw [if_neg (by decide), if_neg (by decide)] at HEO
        obtain ⟨k2, hk2⟩ : ∃ k2, k + 1 = k2 := ⟨_, rfl⟩
        have HK2 := Lib.hid (show k2 = k + 1 by omega)
        have wk : IntKind.i64.wrap (k + 1) = k2 := by rw [show k + 1 = k2 by omega]; exact IntWalk.i64_in _ (by have := HQ.out; omega)
        have HQQ := Lib.hid (show q < q + 1 ∧ q + 1 ≤ n from ⟨by omega, HQN.out⟩)
        rcases text_step zs f q k k2 out R 40 _ 1 HF.out HQL.out hpc hk2 with ⟨hz, hE⟩ | ⟨hz, hc0, hF⟩ | ⟨hz, hc0, h127, hE⟩ | ⟨hz, hc0, h127, hF⟩
        · omega
        · omega
        · have hzb : (k2 == 0) = false := beq_eq_false_iff_ne.2 hz
          have HZ := Lib.hid hz
          have HE := Lib.hid hE
          have hbig : decide ((out.length : Int) ≥ 32767) = true := decide_eq_true (by omega)
          have hbig2 : decide (32767 ≤ (out.length : Int)) = true := decide_eq_true (by omega)
          have hbig3 : decide (32767 ≤ out.length) = true := decide_eq_true (by omega)
          have HCB := Lib.hid (show 0 ≤ (40 : Int) ∧ (40 : Int) < 256 by omega)
          clear hE hpc hz h127 hk2 hc0
          go_wp2_with (first
            | (go_at_call 37; (with_reducible refine (HP0.out _ _ _ (HD.out)).mono ?_); (rintro r wa ⟨rfl, hda⟩); (try dsimp only); have HD := Lib.hid hda; have c1 := hda.ld.c1; have cf := hda.ld.fr 1; clear hda)
            | (go_at_call 69; (with_reducible refine (HEO.out _ _ _ HD.out).mono ?_); (rintro r wa ⟨rfl, hda⟩); (try dsimp only); have HD := Lib.hid hda; have c1 := hda.ld.c1; have cf := hda.ld.fr 1; clear hda))
          go_ret2
          exact DnP.bad (HD.out.setI (q + 1) _ HQ1.out) 3 HE.out (by decide)
        · have hzb : (k2 == 0) = false := beq_eq_false_iff_ne.2 hz
          have HZ := Lib.hid hz
          have HF2 := Lib.hid hF
          have H127 := Lib.hid h127
          have hbig : decide ((out.length : Int) ≥ 32767) = false := decide_eq_false (by omega)
          have hbig2 : decide (32767 ≤ (out.length : Int)) = false := decide_eq_false (by omega)
          have hbig3 : decide (32767 ≤ out.length) = false := decide_eq_false (by omega)
          have HCB := Lib.hid (show 0 ≤ (40 : Int) ∧ (40 : Int) < 256 by omega)
          clear hF hpc hz h127 hk2 hc0
          go_upto_region 23 with (first
            | (go_at_call 37; (with_reducible refine (HP0.out _ _ _ (HD.out)).mono ?_); (rintro r wa ⟨rfl, hda⟩); (try dsimp only); have HD := Lib.hid hda; have c1 := hda.ld.c1; have cf := hda.ld.fr 1; clear hda)
            | (go_at_call 69; (with_reducible refine (HEO.out _ _ _ HD.out).mono ?_); (rintro r wa ⟨rfl, hda⟩); (try dsimp only); have HD := Lib.hid hda; have c1 := hda.ld.c1; have cf := hda.ld.fr 1; clear hda))
          have hd := HD.out.setI (q + 1) _ HQ1.out
          obtain ⟨wb, hwb⟩ : ∃ wb, wa.setCell ⟨m, 1, none⟩ (.int .i64 ((q : Int) + 1)) = wb := ⟨_, rfl⟩
          rw [hwb] at hd
          rw [hwb]
          have HD := Lib.hid hd
          clear hwb hd
          go_wp2_with (first
            | (at_builtin; obtain ⟨v6, w6, hrun, hs6, A6, c6, rfl⟩ := HD.out.room 40 HCB.out (by have := HOL.out; omega); refine Lib.wpList_append_run_sl _ rfl (.tmp 57) (.tmp 60) 25 rfl _ _ rfl rfl hrun ?_; clear hrun; have HD6 := Lib.hid hs6; clear hs6))
          go_roundg f
          case rel => exact ⟨_, k2, _, rfl, HD6, HF2, Lib.hid (by have h1 := HG.out; have h2 := HQQ.out; omega), Lib.hid (by have h2 := HQQ.out; omega), Lib.hid (by rw [List.length_append]; have := H127.out; simp; omega), Lib.hid (by have h1 := HK.out; have h2 := HQQ.out; have h3 := HK2.out; have h4 := HZ.out; omega)⟩
          case measure => omega
      · have hpc : pcZ zs q = (41, q + 1, -1) := by simp [pcZ, hy]
        have HEO := Lib.hid (HEE.out q HQ.out)
        unfold eolZ at HEO
        rw [hy] at HEO
        rw [if_neg (by decide), if_neg (by decide)] at HEO
        obtain ⟨k2, hk2⟩ : ∃ k2, k + -1 = k2 := ⟨_, rfl⟩
        have HK2 := Lib.hid (show k2 = k - 1 by omega)
        have wk : IntKind.i64.wrap (k - 1) = k2 := by rw [show k - 1 = k2 by omega]; exact IntWalk.i64_in _ (by have := HQ.out; omega)
        have HQQ := Lib.hid (show q < q + 1 ∧ q + 1 ≤ n from ⟨by omega, HQN.out⟩)
        rcases text_step zs f q k k2 out R 41 _ (-1) HF.out HQL.out hpc hk2 with ⟨hz, hE⟩ | ⟨hz, hc0, hF⟩ | ⟨hz, hc0, h127, hE⟩ | ⟨hz, hc0, h127, hF⟩
        · have HE := Lib.hid hE
          have hzb : (k2 == 0) = true := beq_iff_eq.2 hz
          clear hE hpc hz hk2
          go_wp2_with (first
            | (go_at_call 37; (with_reducible refine (HP0.out _ _ _ (HD.out)).mono ?_); (rintro r wa ⟨rfl, hda⟩); (try dsimp only); have HD := Lib.hid hda; have c1 := hda.ld.c1; have cf := hda.ld.fr 1; clear hda)
            | (go_at_call 69; (with_reducible refine (HEO.out _ _ _ HD.out).mono ?_); (rintro r wa ⟨rfl, hda⟩); (try dsimp only); have HD := Lib.hid hda; have c1 := hda.ld.c1; have cf := hda.ld.fr 1; clear hda))
          go_ret2
          exact DnP.good (HD.out.setI (q + 1) _ HQ1.out) HE.out
        · omega
        · have hzb : (k2 == 0) = false := beq_eq_false_iff_ne.2 hz
          have HZ := Lib.hid hz
          have HE := Lib.hid hE
          have hbig : decide ((out.length : Int) ≥ 32767) = true := decide_eq_true (by omega)
          have hbig2 : decide (32767 ≤ (out.length : Int)) = true := decide_eq_true (by omega)
          have hbig3 : decide (32767 ≤ out.length) = true := decide_eq_true (by omega)
          have HCB := Lib.hid (show 0 ≤ (41 : Int) ∧ (41 : Int) < 256 by omega)
          clear hE hpc hz h127 hk2 hc0
          go_wp2_with (first
            | (go_at_call 37; (with_reducible refine (HP0.out _ _ _ (HD.out)).mono ?_); (rintro r wa ⟨rfl, hda⟩); (try dsimp only); have HD := Lib.hid hda; have c1 := hda.ld.c1; have cf := hda.ld.fr 1; clear hda)
            | (go_at_call 69; (with_reducible refine (HEO.out _ _ _ HD.out).mono ?_); (rintro r wa ⟨rfl, hda⟩); (try dsimp only); have HD := Lib.hid hda; have c1 := hda.ld.c1; have cf := hda.ld.fr 1; clear hda))
          go_ret2
          exact DnP.bad (HD.out.setI (q + 1) _ HQ1.out) 3 HE.out (by decide)
        · have hzb : (k2 == 0) = false := beq_eq_false_iff_ne.2 hz
          have HZ := Lib.hid hz
          have HF2 := Lib.hid hF
          have H127 := Lib.hid h127
          have hbig : decide ((out.length : Int) ≥ 32767) = false := decide_eq_false (by omega)
          have hbig2 : decide (32767 ≤ (out.length : Int)) = false := decide_eq_false (by omega)
          have hbig3 : decide (32767 ≤ out.length) = false := decide_eq_false (by omega)
          have HCB := Lib.hid (show 0 ≤ (41 : Int) ∧ (41 : Int) < 256 by omega)
          clear hF hpc hz h127 hk2 hc0
          go_upto_region 23 with (first
            | (go_at_call 37; (with_reducible refine (HP0.out _ _ _ (HD.out)).mono ?_); (rintro r wa ⟨rfl, hda⟩); (try dsimp only); have HD := Lib.hid hda; have c1 := hda.ld.c1; have cf := hda.ld.fr 1; clear hda)
            | (go_at_call 69; (with_reducible refine (HEO.out _ _ _ HD.out).mono ?_); (rintro r wa ⟨rfl, hda⟩); (try dsimp only); have HD := Lib.hid hda; have c1 := hda.ld.c1; have cf := hda.ld.fr 1; clear hda))
          have hd := HD.out.setI (q + 1) _ HQ1.out
          obtain ⟨wb, hwb⟩ : ∃ wb, wa.setCell ⟨m, 1, none⟩ (.int .i64 ((q : Int) + 1)) = wb := ⟨_, rfl⟩
          rw [hwb] at hd
          rw [hwb]
          have HD := Lib.hid hd
          clear hwb hd
          go_wp2_with (first
            | (at_builtin; obtain ⟨v6, w6, hrun, hs6, A6, c6, rfl⟩ := HD.out.room 41 HCB.out (by have := HOL.out; omega); refine Lib.wpList_append_run_sl _ rfl (.tmp 57) (.tmp 60) 25 rfl _ _ rfl rfl hrun ?_; clear hrun; have HD6 := Lib.hid hs6; clear hs6))
          go_roundg f
          case rel => exact ⟨_, k2, _, rfl, HD6, HF2, Lib.hid (by have h1 := HG.out; have h2 := HQQ.out; omega), Lib.hid (by have h2 := HQQ.out; omega), Lib.hid (by rw [List.length_append]; have := H127.out; simp; omega), Lib.hid (by have h1 := HK.out; have h2 := HQQ.out; have h3 := HK2.out; have h4 := HZ.out; omega)⟩
          case measure => omega
      · have hpc : pcZ zs q = (10, if peekZ zs ((q + 1 : Nat) : Int) = 10 then q + 2 else q + 1, 0) := by simp [pcZ, hy]
        have HEO := Lib.hid (HEE.out q HQ.out)
        unfold eolZ at HEO
        rw [hy] at HEO
        rw [if_pos rfl] at HEO
        have hk2 : k + 0 = k := by omega
        have HK2 := Lib.hid (show k = k from rfl)
        have HQQ : Hid ((q < if peekZ zs ((q + 1 : Nat) : Int) = 10 then q + 2 else q + 1) ∧ (if peekZ zs ((q + 1 : Nat) : Int) = 10 then q + 2 else q + 1) ≤ n) := Lib.hid (by
          have h2 := HQN.out
          have h3 := HL.out
          by_cases h1 : peekZ zs ((q + 1 : Nat) : Int) = 10
          · have := peekZ_lt zs (q + 1) (by omega)
            rw [if_pos h1]; omega
          · rw [if_neg h1]; omega)
        obtain ⟨qq, hqq⟩ : ∃ qq, (if peekZ zs ((q + 1 : Nat) : Int) = 10 then q + 2 else q + 1) = qq := ⟨_, rfl⟩
        rw [hqq] at HEO HQQ hpc
        clear hqq
        rcases text_step zs f q k k out R 10 _ 0 HF.out HQL.out hpc hk2 with ⟨hz, hE⟩ | ⟨hz, hc0, hF⟩ | ⟨hz, hc0, h127, hE⟩ | ⟨hz, hc0, h127, hF⟩
        · omega
        · omega
        · have hzb : (k == 0) = false := beq_eq_false_iff_ne.2 hz
          have HZ := Lib.hid hz
          have HE := Lib.hid hE
          have hbig : decide ((out.length : Int) ≥ 32767) = true := decide_eq_true (by omega)
          have hbig2 : decide (32767 ≤ (out.length : Int)) = true := decide_eq_true (by omega)
          have hbig3 : decide (32767 ≤ out.length) = true := decide_eq_true (by omega)
          have HCB := Lib.hid (show 0 ≤ (10 : Int) ∧ (10 : Int) < 256 by omega)
          clear hE hpc hz h127 hk2 hc0
          go_wp2_with (first
            | (go_at_call 37; (with_reducible refine (HP0.out _ _ _ (HD.out)).mono ?_); (rintro r wa ⟨rfl, hda⟩); (try dsimp only); have HD := Lib.hid hda; have c1 := hda.ld.c1; have cf := hda.ld.fr 1; clear hda)
            | (go_at_call 69; (with_reducible refine (HEO.out _ _ _ HD.out).mono ?_); (rintro r wa ⟨rfl, hda⟩); (try dsimp only); have HD := Lib.hid hda; have c1 := hda.ld.c1; have cf := hda.ld.fr 1; clear hda))
          go_ret2
          exact DnP.bad HD.out 3 HE.out (by decide)
        · have hzb : (k == 0) = false := beq_eq_false_iff_ne.2 hz
          have HZ := Lib.hid hz
          have HF2 := Lib.hid hF
          have H127 := Lib.hid h127
          have hbig : decide ((out.length : Int) ≥ 32767) = false := decide_eq_false (by omega)
          have hbig2 : decide (32767 ≤ (out.length : Int)) = false := decide_eq_false (by omega)
          have hbig3 : decide (32767 ≤ out.length) = false := decide_eq_false (by omega)
          have HCB := Lib.hid (show 0 ≤ (10 : Int) ∧ (10 : Int) < 256 by omega)
          clear hF hpc hz h127 hk2 hc0
          go_upto_region 23 with (first
            | (go_at_call 37; (with_reducible refine (HP0.out _ _ _ (HD.out)).mono ?_); (rintro r wa ⟨rfl, hda⟩); (try dsimp only); have HD := Lib.hid hda; have c1 := hda.ld.c1; have cf := hda.ld.fr 1; clear hda)
            | (go_at_call 69; (with_reducible refine (HEO.out _ _ _ HD.out).mono ?_); (rintro r wa ⟨rfl, hda⟩); (try dsimp only); have HD := Lib.hid hda; have c1 := hda.ld.c1; have cf := hda.ld.fr 1; clear hda))
          go_wp2_with (first
            | (at_builtin; obtain ⟨v6, w6, hrun, hs6, A6, c6, rfl⟩ := HD.out.room 10 HCB.out (by have := HOL.out; omega); refine Lib.wpList_append_run_sl _ rfl (.tmp 57) (.tmp 60) 25 rfl _ _ rfl rfl hrun ?_; clear hrun; have HD6 := Lib.hid hs6; clear hs6))
          go_roundg f
          case rel => exact ⟨_, k, _, rfl, HD6, HF2, Lib.hid (by have h1 := HG.out; have h2 := HQQ.out; omega), Lib.hid (by have h2 := HQQ.out; omega), Lib.hid (by rw [List.length_append]; have := H127.out; simp; omega), Lib.hid (by have h1 := HK.out; have h2 := HQQ.out; have h3 := HK2.out; have h4 := HZ.out; omega)⟩
          case measure => omega
      · have hpc : pcZ zs q = (10, q + 1, 0) := by simp [pcZ, hy]
        have HEO := Lib.hid (HEE.out q HQ.out)
        unfold eolZ at HEO
        rw [hy] at HEO
        rw [if_neg (by decide), if_pos rfl] at HEO
        have hk2 : k + 0 = k := by omega
        have HK2 := Lib.hid (show k = k from rfl)
        have HQQ := Lib.hid (show q < q + 1 ∧ q + 1 ≤ n from ⟨by omega, HQN.out⟩)
        rcases text_step zs f q k k out R 10 _ 0 HF.out HQL.out hpc hk2 with ⟨hz, hE⟩ | ⟨hz, hc0, hF⟩ | ⟨hz, hc0, h127, hE⟩ | ⟨hz, hc0, h127, hF⟩
        · omega
        · omega
        · have hzb : (k == 0) = false := beq_eq_false_iff_ne.2 hz
          have HZ := Lib.hid hz
          have HE := Lib.hid hE
          have hbig : decide ((out.length : Int) ≥ 32767) = true := decide_eq_true (by omega)
          have hbig2 : decide (32767 ≤ (out.length : Int)) = true := decide_eq_true (by omega)
          have hbig3 : decide (32767 ≤ out.length) = true := decide_eq_true (by omega)
          have HCB := Lib.hid (show 0 ≤ (10 : Int) ∧ (10 : Int) < 256 by omega)
          clear hE hpc hz h127 hk2 hc0
          go_wp2_with (first
            | (go_at_call 37; (with_reducible refine (HP0.out _ _ _ (HD.out)).mono ?_); (rintro r wa ⟨rfl, hda⟩); (try dsimp only); have HD := Lib.hid hda; have c1 := hda.ld.c1; have cf := hda.ld.fr 1; clear hda)
            | (go_at_call 69; (with_reducible refine (HEO.out _ _ _ HD.out).mono ?_); (rintro r wa ⟨rfl, hda⟩); (try dsimp only); have HD := Lib.hid hda; have c1 := hda.ld.c1; have cf := hda.ld.fr 1; clear hda))
          go_ret2
          exact DnP.bad HD.out 3 HE.out (by decide)
        · have hzb : (k == 0) = false := beq_eq_false_iff_ne.2 hz
          have HZ := Lib.hid hz
          have HF2 := Lib.hid hF
          have H127 := Lib.hid h127
          have hbig : decide ((out.length : Int) ≥ 32767) = false := decide_eq_false (by omega)
          have hbig2 : decide (32767 ≤ (out.length : Int)) = false := decide_eq_false (by omega)
          have hbig3 : decide (32767 ≤ out.length) = false := decide_eq_false (by omega)
          have HCB := Lib.hid (show 0 ≤ (10 : Int) ∧ (10 : Int) < 256 by omega)
          clear hF hpc hz h127 hk2 hc0
          go_upto_region 23 with (first
            | (go_at_call 37; (with_reducible refine (HP0.out _ _ _ (HD.out)).mono ?_); (rintro r wa ⟨rfl, hda⟩); (try dsimp only); have HD := Lib.hid hda; have c1 := hda.ld.c1; have cf := hda.ld.fr 1; clear hda)
            | (go_at_call 69; (with_reducible refine (HEO.out _ _ _ HD.out).mono ?_); (rintro r wa ⟨rfl, hda⟩); (try dsimp only); have HD := Lib.hid hda; have c1 := hda.ld.c1; have cf := hda.ld.fr 1; clear hda))
          go_wp2_with (first
            | (at_builtin; obtain ⟨v6, w6, hrun, hs6, A6, c6, rfl⟩ := HD.out.room 10 HCB.out (by have := HOL.out; omega); refine Lib.wpList_append_run_sl _ rfl (.tmp 57) (.tmp 60) 25 rfl _ _ rfl rfl hrun ?_; clear hrun; have HD6 := Lib.hid hs6; clear hs6))
          go_roundg f
          case rel => exact ⟨_, k, _, rfl, HD6, HF2, Lib.hid (by have h1 := HG.out; have h2 := HQQ.out; omega), Lib.hid (by have h2 := HQQ.out; omega), Lib.hid (by rw [List.length_append]; have := H127.out; simp; omega), Lib.hid (by have h1 := HK.out; have h2 := HQQ.out; have h3 := HK2.out; have h4 := HZ.out; omega)⟩
          case measure => omega
      · by_cases h2 : q + 1 < n
        · have hpc : pcZ zs q = ((escZ zs (q + 1)).1, (escZ zs (q + 1)).2, 0) := by
            have := HL.out
            rw [pcZ, if_pos hy, if_neg (by omega)]
          have hes := esc_bd zs HB.out.rng (q + 1) (by have := HL.out; omega)
          have hy2 : 0 ≤ peekZ zs ((q + 1 : Nat) : Int) := by
            have := HL.out
            rw [peekZ_in zs (q + 1) (by omega), getD_eq zs (q + 1) (by omega)]
            exact (HB.out.rng _ (List.getElem_mem _)).1
          have HP1 := Lib.hid (HPP.out (q + 1) (by omega))
          obtain ⟨y2, hyy⟩ : ∃ y, peekZ zs ((q + 1 : Nat) : Int) = y := ⟨_, rfl⟩
          rw [hyy] at HP1 hy2
          have hneg2 : decide (y2 < 0) = false := decide_eq_false (by omega)
          have HES := Lib.hid (HSS.out (q + 1) h2)
          have hk2 : k + 0 = k := by omega
          have HK2 := Lib.hid (show k = k from rfl)
          obtain ⟨⟨x1, qq⟩, hX⟩ : ∃ X, escZ zs (q + 1) = X := ⟨_, rfl⟩
          rw [hX] at hpc hes HES
          dsimp only at hpc hes
          have HX1 := Lib.hid (show -1 ≤ x1 ∧ x1 < 256 from ⟨hes.1, hes.2.1⟩)
          have HQQ := Lib.hid (show q < qq ∧ qq ≤ n by have := HL.out; omega)
          clear hX hyy hes h2
          rcases text_step zs f q k k out R x1 _ 0 HF.out HQL.out hpc hk2 with ⟨hz, hE⟩ | ⟨hz, hc0, hF⟩ | ⟨hz, hc0, h127, hE⟩ | ⟨hz, hc0, h127, hF⟩
          · omega
          · have HF2 := Lib.hid hF
            have hzb : (k == 0) = false := beq_eq_false_iff_ne.2 hz
            have hcb : decide (0 ≤ x1) = false := decide_eq_false (by omega)
            clear hF hpc hz hk2
            go_wp2_with (first
              | (go_at_call 37; (with_reducible refine (HP0.out _ _ _ (HD.out)).mono ?_); (rintro r wa ⟨rfl, hda⟩); (try dsimp only); have HD := Lib.hid hda; have c1 := hda.ld.c1; have cf := hda.ld.fr 1; clear hda)
              | (go_at_call 37; (with_reducible refine (HP1.out _ _ _ (HD.out.setI (q + 1) _ HQ1.out)).mono ?_); (rintro r wa ⟨rfl, hda⟩); (try dsimp only); have HD := Lib.hid hda; have c1 := hda.ld.c1; have cf := hda.ld.fr 1; clear hda)
              | (go_at_call 68; (with_reducible refine (HES.out _ _ _ HD.out).mono ?_); (rintro r wa ⟨rfl, hda⟩); (try dsimp only); have HD := Lib.hid hda; have c1 := hda.ld.c1; have cf := hda.ld.fr 1; clear hda))
            go_roundg f
            case rel => exact ⟨_, k, out, rfl, HD, HF2, Lib.hid (by have h1 := HG.out; have h2 := HQQ.out; omega), Lib.hid (by have h2 := HQQ.out; omega), HOL, Lib.hid (by have h1 := HK.out; have h2 := HQQ.out; have h3 := HK2.out; omega)⟩
            case measure => omega
          · have hzb : (k == 0) = false := beq_eq_false_iff_ne.2 hz
            have HZ := Lib.hid hz
            have HE := Lib.hid hE
            have hbig : decide ((out.length : Int) ≥ 32767) = true := decide_eq_true (by omega)
            have hbig2 : decide (32767 ≤ (out.length : Int)) = true := decide_eq_true (by omega)
            have hbig3 : decide (32767 ≤ out.length) = true := decide_eq_true (by omega)
            have hcb : decide (0 ≤ x1) = true := decide_eq_true (by omega)
            have hcb2 : 0 ≤ x1 := by omega
            have wV : IntKind.u8.wrap x1 = x1 := IntWalk.u8_in _ (by have := HX1.out; omega)
            have HCB := Lib.hid (show 0 ≤ (x1 : Int) ∧ (x1 : Int) < 256 by have := HX1.out; omega)
            clear hE hpc hz h127 hk2 hc0
            go_wp2_with (first
              | (go_at_call 37; (with_reducible refine (HP0.out _ _ _ (HD.out)).mono ?_); (rintro r wa ⟨rfl, hda⟩); (try dsimp only); have HD := Lib.hid hda; have c1 := hda.ld.c1; have cf := hda.ld.fr 1; clear hda)
              | (go_at_call 37; (with_reducible refine (HP1.out _ _ _ (HD.out.setI (q + 1) _ HQ1.out)).mono ?_); (rintro r wa ⟨rfl, hda⟩); (try dsimp only); have HD := Lib.hid hda; have c1 := hda.ld.c1; have cf := hda.ld.fr 1; clear hda)
              | (go_at_call 68; (with_reducible refine (HES.out _ _ _ HD.out).mono ?_); (rintro r wa ⟨rfl, hda⟩); (try dsimp only); have HD := Lib.hid hda; have c1 := hda.ld.c1; have cf := hda.ld.fr 1; clear hda))
            go_ret2
            exact DnP.bad HD.out 3 HE.out (by decide)
          · have hzb : (k == 0) = false := beq_eq_false_iff_ne.2 hz
            have HZ := Lib.hid hz
            have HF2 := Lib.hid hF
            have H127 := Lib.hid h127
            have hbig : decide ((out.length : Int) ≥ 32767) = false := decide_eq_false (by omega)
            have hbig2 : decide (32767 ≤ (out.length : Int)) = false := decide_eq_false (by omega)
            have hbig3 : decide (32767 ≤ out.length) = false := decide_eq_false (by omega)
            have hcb : decide (0 ≤ x1) = true := decide_eq_true (by omega)
            have hcb2 : 0 ≤ x1 := by omega
            have wV : IntKind.u8.wrap x1 = x1 := IntWalk.u8_in _ (by have := HX1.out; omega)
            have HCB := Lib.hid (show 0 ≤ (x1 : Int) ∧ (x1 : Int) < 256 by have := HX1.out; omega)
            clear hF hpc hz h127 hk2 hc0
            go_upto_region 23 with (first
              | (go_at_call 37; (with_reducible refine (HP0.out _ _ _ (HD.out)).mono ?_); (rintro r wa ⟨rfl, hda⟩); (try dsimp only); have HD := Lib.hid hda; have c1 := hda.ld.c1; have cf := hda.ld.fr 1; clear hda)
              | (go_at_call 37; (with_reducible refine (HP1.out _ _ _ (HD.out.setI (q + 1) _ HQ1.out)).mono ?_); (rintro r wa ⟨rfl, hda⟩); (try dsimp only); have HD := Lib.hid hda; have c1 := hda.ld.c1; have cf := hda.ld.fr 1; clear hda)
              | (go_at_call 68; (with_reducible refine (HES.out _ _ _ HD.out).mono ?_); (rintro r wa ⟨rfl, hda⟩); (try dsimp only); have HD := Lib.hid hda; have c1 := hda.ld.c1; have cf := hda.ld.fr 1; clear hda))
            go_wp2_with (first
              | (at_builtin; obtain ⟨v6, w6, hrun, hs6, A6, c6, rfl⟩ := HD.out.room x1 HCB.out (by have := HOL.out; omega); refine Lib.wpList_append_run_sl _ rfl (.tmp 57) (.tmp 60) 25 rfl _ _ rfl rfl hrun ?_; clear hrun; have HD6 := Lib.hid hs6; clear hs6))
            go_roundg f
            case rel => exact ⟨_, k, _, rfl, HD6, HF2, Lib.hid (by have h1 := HG.out; have h2 := HQQ.out; omega), Lib.hid (by have h2 := HQQ.out; omega), Lib.hid (by rw [List.length_append]; have := H127.out; simp; omega), Lib.hid (by have h1 := HK.out; have h2 := HQQ.out; have h3 := HK2.out; have h4 := HZ.out; omega)⟩
            case measure => omega
        · have HRE : Hid (R.1 = 2) := Lib.hid (by
            have h1 := HL.out
            have h3 := HF.out
            have h4 : ∃ g, f = g + 1 := ⟨f - 1, by have := HG.out; have := HQN.out; omega⟩
            obtain ⟨g, rfl⟩ := h4
            have hpc : pcZ zs q = (-1, q + 1, 0) := by rw [pcZ, if_pos hy, if_pos (by omega)]
            rcases text_step zs (g + 1) q k k out R (-1) _ 0 h3 HQL.out hpc (by omega) with ⟨hz, _⟩ | ⟨_, _, hF⟩ | ⟨_, hc0, _⟩ | ⟨_, hc0, _⟩
            · omega
            · exact text_end zs g (q + 1) k out R hF (by omega)
            · omega
            · omega)
          have HP1 := Lib.hid (HPP.out (q + 1) (by have := HQ.out; omega))
          rw [peekZ_nat zs (q + 1) (by have := HL.out; omega)] at HP1
          clear h2 hy
          go_wp2_with (first
            | (go_at_call 37; (with_reducible refine (HP0.out _ _ _ (HD.out)).mono ?_); (rintro r wa ⟨rfl, hda⟩); (try dsimp only); have HD := Lib.hid hda; have c1 := hda.ld.c1; have cf := hda.ld.fr 1; clear hda)
            | (go_at_call 37; (with_reducible refine (HP1.out _ _ _ (HD.out.setI (q + 1) _ HQ1.out)).mono ?_); (rintro r wa ⟨rfl, hda⟩); (try dsimp only); have HD := Lib.hid hda; have c1 := hda.ld.c1; have cf := hda.ld.fr 1; clear hda))
          go_ret2
          exact DnP.bad HD.out 2 HRE.out (by decide)
      · obtain ⟨a1, a2, a3, a4, a5⟩ := hy1
        have hpc : pcZ zs q = (y, q + 1, 0) := by simp [pcZ, hy, a1, a2, a3, a5]
        have HEO := Lib.hid (HEE.out q HQ.out)
        unfold eolZ at HEO
        rw [hy] at HEO
        rw [if_neg (by exact a3), if_neg (by exact a4)] at HEO
        have hk2 : k + 0 = k := by omega
        have HK2 := Lib.hid (show k = k from rfl)
        have b1 : (y == 40) = false := beq_eq_false_iff_ne.2 a1
        have b2 : (y == 41) = false := beq_eq_false_iff_ne.2 a2
        have b5 : (y == 92) = false := beq_eq_false_iff_ne.2 a5
        clear a1 a2 a3 a4 a5
        have HQQ := Lib.hid (show q < q + 1 ∧ q + 1 ≤ n from ⟨by omega, HQN.out⟩)
        rcases text_step zs f q k k out R y _ 0 HF.out HQL.out hpc hk2 with ⟨hz, hE⟩ | ⟨hz, hc0, hF⟩ | ⟨hz, hc0, h127, hE⟩ | ⟨hz, hc0, h127, hF⟩
        · omega
        · omega
        · have hzb : (k == 0) = false := beq_eq_false_iff_ne.2 hz
          have HZ := Lib.hid hz
          have HE := Lib.hid hE
          have hbig : decide ((out.length : Int) ≥ 32767) = true := decide_eq_true (by omega)
          have hbig2 : decide (32767 ≤ (out.length : Int)) = true := decide_eq_true (by omega)
          have hbig3 : decide (32767 ≤ out.length) = true := decide_eq_true (by omega)
          have hcb : decide (0 ≤ y) = true := decide_eq_true (by omega)
          have hcb2 : 0 ≤ y := by omega
          have wV : IntKind.u8.wrap y = y := IntWalk.u8_in _ (by omega)
          have HCB := Lib.hid (show 0 ≤ (y : Int) ∧ (y : Int) < 256 by omega)
          clear hE hpc hz h127 hk2 hc0
          go_wp2_with (first
            | (go_at_call 37; (with_reducible refine (HP0.out _ _ _ (HD.out)).mono ?_); (rintro r wa ⟨rfl, hda⟩); (try dsimp only); have HD := Lib.hid hda; have c1 := hda.ld.c1; have cf := hda.ld.fr 1; clear hda)
            | (go_at_call 69; (with_reducible refine (HEO.out _ _ _ HD.out).mono ?_); (rintro r wa ⟨rfl, hda⟩); (try dsimp only); have HD := Lib.hid hda; have c1 := hda.ld.c1; have cf := hda.ld.fr 1; clear hda))
          go_ret2
          exact DnP.bad (HD.out.setI (q + 1) _ HQ1.out) 3 HE.out (by decide)
        · have hzb : (k == 0) = false := beq_eq_false_iff_ne.2 hz
          have HZ := Lib.hid hz
          have HF2 := Lib.hid hF
          have H127 := Lib.hid h127
          have hbig : decide ((out.length : Int) ≥ 32767) = false := decide_eq_false (by omega)
          have hbig2 : decide (32767 ≤ (out.length : Int)) = false := decide_eq_false (by omega)
          have hbig3 : decide (32767 ≤ out.length) = false := decide_eq_false (by omega)
          have hcb : decide (0 ≤ y) = true := decide_eq_true (by omega)
          have hcb2 : 0 ≤ y := by omega
          have wV : IntKind.u8.wrap y = y := IntWalk.u8_in _ (by omega)
          have HCB := Lib.hid (show 0 ≤ (y : Int) ∧ (y : Int) < 256 by omega)
          clear hF hpc hz h127 hk2 hc0
          go_upto_region 23 with (first
            | (go_at_call 37; (with_reducible refine (HP0.out _ _ _ (HD.out)).mono ?_); (rintro r wa ⟨rfl, hda⟩); (try dsimp only); have HD := Lib.hid hda; have c1 := hda.ld.c1; have cf := hda.ld.fr 1; clear hda)
            | (go_at_call 69; (with_reducible refine (HEO.out _ _ _ HD.out).mono ?_); (rintro r wa ⟨rfl, hda⟩); (try dsimp only); have HD := Lib.hid hda; have c1 := hda.ld.c1; have cf := hda.ld.fr 1; clear hda))
          have hd := HD.out.setI (q + 1) _ HQ1.out
          obtain ⟨wb, hwb⟩ : ∃ wb, wa.setCell ⟨m, 1, none⟩ (.int .i64 ((q : Int) + 1)) = wb := ⟨_, rfl⟩
          rw [hwb] at hd
          rw [hwb]
          have HD := Lib.hid hd
          clear hwb hd
          go_wp2_with (first
            | (at_builtin; obtain ⟨v6, w6, hrun, hs6, A6, c6, rfl⟩ := HD.out.room y HCB.out (by have := HOL.out; omega); refine Lib.wpList_append_run_sl _ rfl (.tmp 57) (.tmp 60) 25 rfl _ _ rfl rfl hrun ?_; clear hrun; have HD6 := Lib.hid hs6; clear hs6))
          go_roundg f
          case rel => exact ⟨_, k, _, rfl, HD6, HF2, Lib.hid (by have h1 := HG.out; have h2 := HQQ.out; omega), Lib.hid (by have h2 := HQQ.out; omega), Lib.hid (by rw [List.length_append]; have := H127.out; simp; omega), Lib.hid (by have h1 := HK.out; have h2 := HQQ.out; have h3 := HK2.out; have h4 := HZ.out; omega)⟩
          case measure => omega
end Go.Proofs.Ytojbhckgegoldaa
