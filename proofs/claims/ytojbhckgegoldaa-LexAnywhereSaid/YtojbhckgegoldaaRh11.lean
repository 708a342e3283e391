/- Chapter 11, the document's own lexer: digits of base 16. -/
import Derived.Test.YtojbhckgegoldaaRm11
import Derived.Test.YtojbhckgegoldaaLh11
namespace Go.Proofs.Ytojbhckgegoldaa
open Go.RowKit
set_option linter.unusedVariables false
set_option maxRecDepth 100000

set_option maxHeartbeats 8000000 in
theorem rhexC (m n c p B : Nat) (T : TypeId) (X : List Value) (A : Option Addr) (zs : List Int) (w : World) (h : LD w m T X A n c p) (hb : Byt w B A n c zs) (hB : B ≤ m) (hn : n ≤ 1000000) (hp : p ≤ n) :
    Calls Try.prog 52 #[.pointer (some ⟨m, 0, none⟩)] w (DnP m T X A n c (hexZ zs p) w) := by
  have HD0 := Lib.hid (DS.start h)
  have HB := Lib.hid hb
  have HL := Lib.hid hb.len
  have HPP := Lib.hid (fun q (hq : q ≤ n + 5) W v out (x : DS w W m T X A n c q v out) => rdk0 x hb hB hn (by omega))
  obtain ⟨R, hR⟩ : ∃ R, hexZ zs p = R := ⟨_, rfl⟩
  rw [hR]
  have HR := Lib.hid hR
  obtain ⟨U, hU⟩ : ∃ U, unhxR 32767 (zs.drop p) (-1) [] = U := ⟨_, rfl⟩
  have HRU : Hid (R = (if U.2 = 7 then 3 else U.2, U.1, p + rowZ prB (zs.drop p) + 1)) := Lib.hid (by rw [← hR, ← hU]; rfl)
  have HU := Lib.hid hU
  clear h hb hR hU
  go_enter Try.func52, Try.ntmps52
  go_wp2_with fail
  go_loopg [4, 5, 6, 7] (n + 1) (fun gk s4 s5 s6 s7 wr => ∃ (q : Nat) (hf : Int) (out : List Int), s5 = .int .i64 hf ∧ Hid (DS w wr m T X A n c q s4 out) ∧ Hid (unhxR 32767 (zs.drop q) hf out = U) ∧ Hid (n < gk + q) ∧ Hid (q ≤ n) ∧ Hid (out.length ≤ 32767) ∧ Hid (-1 ≤ hf ∧ hf ≤ 15) ∧ Hid (q + rowZ prB (zs.drop q) = p + rowZ prB (zs.drop p)))
  case atStart => exact ⟨p, -1, [], rfl, HD0, HU, Lib.hid (by omega), Lib.hid hp, Lib.hid (by simp), Lib.hid (by omega), Lib.hid rfl⟩
  case round =>
    obtain ⟨q, hf, out, rfl, HD, HF, HG, HQ, HOL, HH, HE⟩ := hrel
    obtain ⟨A', c', rfl, _, _⟩ := HD.out.byt
    have HP0 := Lib.hid (HPP.out q (by have := HQ.out; omega))
    have hbd := peekZ_bd zs HB.out.rng (q : Int)
    have w1 : IntKind.i64.wrap ((q : Int) + 1) = (q : Int) + 1 := IntWalk.i64_in _ (by have := HQ.out; omega)
    have HQ1 : Hid ((q : Int) + 1 = ((q + 1 : Nat) : Int)) := Lib.hid (by omega)
    have c1 := HD.out.ld.c1
    have cf := HD.out.ld.fr 1
    have hhb := HH.out
    obtain ⟨y, hy⟩ : ∃ y, peekZ zs (q : Int) = y := ⟨_, rfl⟩
    rw [hy] at HP0 hbd
    have HDG := Lib.hid (fun W => rdigit y W)
    have HWH := Lib.hid (fun W => rwhite y W)
    by_cases hlt : y < 0
    · obtain rfl : y = -1 := by omega
      have hqn : zs.length ≤ q := by
        rcases Nat.lt_or_ge q zs.length with hq | hq
        · exfalso
          have h1 := peekZ_in zs q hq
          rw [getD_eq zs q hq] at h1
          have := (HB.out.rng _ (List.getElem_mem hq)).1
          omega
        · exact hq
      have HRE : Hid (R.1 = 2) := Lib.hid (by
        have h1 := HF.out
        rw [List.drop_of_length_le hqn, unhxR] at h1
        rw [HRU.out, ← h1]
        rfl)
      rw [show dgZ (-1) = -1 from by decide] at HDG
      clear hlt hbd hy hqn
      go_wp2_with (first
        | (go_at_call 37; (with_reducible refine (HP0.out _ _ _ (HD.out)).mono ?_); (rintro r wa ⟨rfl, hda⟩); (try dsimp only); have HD := Lib.hid hda; have c1 := hda.ld.c1; have cf := hda.ld.fr 1; clear hda)
        | (go_at_call 67; (with_reducible refine (HDG.out _).mono ?_); (rintro r w7 ⟨rfl, rfl⟩); (try dsimp only))
        | (go_at_call 41; (with_reducible refine (HWH.out _).mono ?_); (rintro r w7 ⟨rfl, rfl⟩); (try dsimp only)))
      go_ret2
      exact DnP.bad (HD.out.setI (q + 1) _ HQ1.out) 2 HRE.out (by decide)
    · have hq : q < zs.length := peekZ_lt zs q (by omega)
      have hqn : q < n := by have := HL.out; omega
      have HQN := Lib.hid hqn
      have hdr : zs.drop q = y :: zs.drop (q + 1) := by rw [drop_peek zs q hq, hy]
      have hun := HF.out
      rw [hdr, unhxR] at hun
      have hrw : rowZ prB (zs.drop q) = if prB y = true then rowZ prB (zs.drop (q + 1)) + 1 else 0 := by rw [hdr, rowZ]
      have hneg : decide (y < 0) = false := decide_eq_false hlt
      clear hq hqn hdr hy
      rcases hw : whB y with _ | _
      · rw [hw] at HWH
        rw [if_neg (by rw [hw]; decide)] at hun
        by_cases h62 : y = 62
        · subst h62
          rw [if_pos rfl] at hun
          rw [show dgZ 62 = -1 from by decide] at HDG
          have HEE : Hid (q + 1 = p + rowZ prB (zs.drop p) + 1) := Lib.hid (by rw [if_neg (by decide)] at hrw; have := HE.out; omega)
          by_cases hh : hf < 0
          · rw [if_pos hh] at hun
            have HRE : Hid (R = (0, out, q + 1)) := Lib.hid (by rw [HRU.out, ← hun, HEE.out]; rfl)
            have hhb2 : decide (hf < 0) = true := decide_eq_true hh
            clear hun hrw
            go_wp2_with (first
              | (go_at_call 37; (with_reducible refine (HP0.out _ _ _ (HD.out)).mono ?_); (rintro r wa ⟨rfl, hda⟩); (try dsimp only); have HD := Lib.hid hda; have c1 := hda.ld.c1; have cf := hda.ld.fr 1; clear hda)
              | (go_at_call 67; (with_reducible refine (HDG.out _).mono ?_); (rintro r w7 ⟨rfl, rfl⟩); (try dsimp only))
              | (go_at_call 41; (with_reducible refine (HWH.out _).mono ?_); (rintro r w7 ⟨rfl, rfl⟩); (try dsimp only)))
            go_ret2
            exact DnP.good (HD.out.setI (q + 1) _ HQ1.out) HRE.out
          · rw [if_neg hh] at hun
            have hhb2 : decide (hf < 0) = false := decide_eq_false hh
            by_cases hM : 32767 ≤ out.length
            · rw [if_pos hM] at hun
              have HRE : Hid (R.1 = 3) := Lib.hid (by rw [HRU.out, ← hun]; rfl)
              have hbig : decide ((out.length : Int) ≥ 32767) = true := decide_eq_true (by omega)
              have hbig2 : decide (32767 ≤ (out.length : Int)) = true := decide_eq_true (by omega)
              have hbig3 : decide (32767 ≤ out.length) = true := decide_eq_true (by omega)
              clear hun hrw hM
              go_wp2_with (first
                | (go_at_call 37; (with_reducible refine (HP0.out _ _ _ (HD.out)).mono ?_); (rintro r wa ⟨rfl, hda⟩); (try dsimp only); have HD := Lib.hid hda; have c1 := hda.ld.c1; have cf := hda.ld.fr 1; clear hda)
                | (go_at_call 67; (with_reducible refine (HDG.out _).mono ?_); (rintro r w7 ⟨rfl, rfl⟩); (try dsimp only))
                | (go_at_call 41; (with_reducible refine (HWH.out _).mono ?_); (rintro r w7 ⟨rfl, rfl⟩); (try dsimp only)))
              go_ret2
              exact DnP.bad (HD.out.setI (q + 1) _ HQ1.out) 3 HRE.out (by decide)
            · rw [if_neg hM] at hun
              have HRE : Hid (R = (0, out ++ [hf * 16], q + 1)) := Lib.hid (by rw [HRU.out, ← hun, HEE.out]; rfl)
              have hbig : decide ((out.length : Int) ≥ 32767) = false := decide_eq_false (by omega)
              have hbig2 : decide (32767 ≤ (out.length : Int)) = false := decide_eq_false (by omega)
              have hbig3 : decide (32767 ≤ out.length) = false := decide_eq_false (by omega)
              obtain ⟨z, hz⟩ : ∃ z, hf * 16 = z := ⟨_, rfl⟩
              rw [hz] at HRE
              have wz1 : IntKind.i64.wrap (16 * hf) = z := by rw [show 16 * hf = z by omega]; exact IntWalk.i64_in _ (by omega)
              have wz2 : IntKind.i64.wrap z = z := IntWalk.i64_in _ (by omega)
              have wz3 : IntKind.i64.wrap (16 * hf + 0) = z := by rw [show 16 * hf + 0 = z by omega]; exact wz2
              have wV : IntKind.u8.wrap z = z := IntWalk.u8_in _ (by omega)
              have HZB := Lib.hid (show 0 ≤ z ∧ z < 256 by omega)
              clear hun hrw hM hz
              go_upto_region 19 with (first
                | (go_at_call 37; (with_reducible refine (HP0.out _ _ _ (HD.out)).mono ?_); (rintro r wa ⟨rfl, hda⟩); (try dsimp only); have HD := Lib.hid hda; have c1 := hda.ld.c1; have cf := hda.ld.fr 1; clear hda)
                | (go_at_call 67; (with_reducible refine (HDG.out _).mono ?_); (rintro r w7 ⟨rfl, rfl⟩); (try dsimp only))
                | (go_at_call 41; (with_reducible refine (HWH.out _).mono ?_); (rintro r w7 ⟨rfl, rfl⟩); (try dsimp only)))
              have hd := HD.out.setI (q + 1) _ HQ1.out
              obtain ⟨wb, hwb⟩ : ∃ wb, wa.setCell ⟨m, 1, none⟩ (.int .i64 ((q : Int) + 1)) = wb := ⟨_, rfl⟩
              rw [hwb] at hd
              rw [hwb]
              have HD := Lib.hid hd
              clear hwb hd
              go_wp2_with (first
                | (at_builtin; obtain ⟨v6, w6, hrun, hs6, A6, c6, rfl⟩ := HD.out.room z HZB.out (by have := HOL.out; omega); refine Lib.wpList_append_run_sl _ rfl (.tmp 45) (.tmp 51) 25 rfl _ _ rfl rfl hrun ?_; clear hrun; have HD6 := Lib.hid hs6; clear hs6))
              go_ret2
              have hg := HD6.out
              have e : (out ++ [z]).length = out.length + 1 := by simp
              rw [← e] at hg ⊢
              exact DnP.good hg HRE.out
        · rw [if_neg h62] at hun
          have y62 : (y == 62) = false := beq_eq_false_iff_ne.2 h62
          have hdb := dgZ_bd y
          obtain ⟨d, hd⟩ : ∃ d, dgZ y = d := ⟨_, rfl⟩
          have hpr : prB y = decide (0 ≤ d) := by unfold prB; rw [hw, hd, Bool.or_false]
          rw [hd] at hun HDG hdb
          rw [hpr] at hrw
          clear hd hpr hw h62
          by_cases hd0 : d < 0
          · rw [if_pos hd0] at hun
            have HRE : Hid (R.1 = 4) := Lib.hid (by rw [HRU.out, ← hun]; rfl)
            have hdd : decide (d < 0) = true := decide_eq_true hd0
            clear hun hrw
            go_wp2_with (first
              | (go_at_call 37; (with_reducible refine (HP0.out _ _ _ (HD.out)).mono ?_); (rintro r wa ⟨rfl, hda⟩); (try dsimp only); have HD := Lib.hid hda; have c1 := hda.ld.c1; have cf := hda.ld.fr 1; clear hda)
              | (go_at_call 67; (with_reducible refine (HDG.out _).mono ?_); (rintro r w7 ⟨rfl, rfl⟩); (try dsimp only))
              | (go_at_call 41; (with_reducible refine (HWH.out _).mono ?_); (rintro r w7 ⟨rfl, rfl⟩); (try dsimp only)))
            go_ret2
            exact DnP.bad (HD.out.setI (q + 1) _ HQ1.out) 4 HRE.out (by decide)
          · rw [if_neg hd0] at hun
            have hdd : decide (d < 0) = false := decide_eq_false hd0
            have HE2 : Hid (q + 1 + rowZ prB (zs.drop (q + 1)) = p + rowZ prB (zs.drop p)) := Lib.hid (by rw [if_pos (by simp; omega)] at hrw; have := HE.out; omega)
            have HDB := Lib.hid (show 0 ≤ d ∧ d ≤ 15 by omega)
            by_cases hh : hf < 0
            · rw [if_pos hh] at hun
              have HU2 := Lib.hid hun
              have hhb2 : decide (hf < 0) = true := decide_eq_true hh
              clear hun hrw
              go_wp2_with (first
                | (go_at_call 37; (with_reducible refine (HP0.out _ _ _ (HD.out)).mono ?_); (rintro r wa ⟨rfl, hda⟩); (try dsimp only); have HD := Lib.hid hda; have c1 := hda.ld.c1; have cf := hda.ld.fr 1; clear hda)
                | (go_at_call 67; (with_reducible refine (HDG.out _).mono ?_); (rintro r w7 ⟨rfl, rfl⟩); (try dsimp only))
                | (go_at_call 41; (with_reducible refine (HWH.out _).mono ?_); (rintro r w7 ⟨rfl, rfl⟩); (try dsimp only)))
              go_roundg (gk - 1)
              case rel => exact ⟨q + 1, d, out, rfl, Lib.hid (HD.out.setI (q + 1) _ HQ1.out), HU2, Lib.hid (by have h1 := HG.out; omega), Lib.hid (by have h2 := HQN.out; omega), HOL, Lib.hid (by have := HDB.out; omega), HE2⟩
              case measure => have := HG.out; have := HQN.out; omega
            · rw [if_neg hh] at hun
              have hhb2 : decide (hf < 0) = false := decide_eq_false hh
              by_cases hM : 32767 ≤ out.length
              · rw [if_pos hM] at hun
                have HRE : Hid (R.1 = 3) := Lib.hid (by rw [HRU.out, ← hun]; rfl)
                have hbig : decide ((out.length : Int) ≥ 32767) = true := decide_eq_true (by omega)
                have hbig2 : decide (32767 ≤ (out.length : Int)) = true := decide_eq_true (by omega)
                have hbig3 : decide (32767 ≤ out.length) = true := decide_eq_true (by omega)
                clear hun hrw hM
                go_wp2_with (first
                  | (go_at_call 37; (with_reducible refine (HP0.out _ _ _ (HD.out)).mono ?_); (rintro r wa ⟨rfl, hda⟩); (try dsimp only); have HD := Lib.hid hda; have c1 := hda.ld.c1; have cf := hda.ld.fr 1; clear hda)
                  | (go_at_call 67; (with_reducible refine (HDG.out _).mono ?_); (rintro r w7 ⟨rfl, rfl⟩); (try dsimp only))
                  | (go_at_call 41; (with_reducible refine (HWH.out _).mono ?_); (rintro r w7 ⟨rfl, rfl⟩); (try dsimp only)))
                go_ret2
                exact DnP.bad (HD.out.setI (q + 1) _ HQ1.out) 3 HRE.out (by decide)
              · rw [if_neg hM] at hun
                have hbig : decide ((out.length : Int) ≥ 32767) = false := decide_eq_false (by omega)
                have hbig2 : decide (32767 ≤ (out.length : Int)) = false := decide_eq_false (by omega)
                have hbig3 : decide (32767 ≤ out.length) = false := decide_eq_false (by omega)
                have H127 := Lib.hid hM
                obtain ⟨z, hz⟩ : ∃ z, hf * 16 + d = z := ⟨_, rfl⟩
                rw [hz] at hun
                have HU2 := Lib.hid hun
                have wz1 : IntKind.i64.wrap (16 * hf) = 16 * hf := IntWalk.i64_in _ (by omega)
                have wz2 : IntKind.i64.wrap (16 * hf + d) = z := by rw [show 16 * hf + d = z by omega]; exact IntWalk.i64_in _ (by omega)
                have wV : IntKind.u8.wrap z = z := IntWalk.u8_in _ (by omega)
                have HZB := Lib.hid (show 0 ≤ z ∧ z < 256 by omega)
                clear hun hrw hM hz
                go_upto_region 19 with (first
                  | (go_at_call 37; (with_reducible refine (HP0.out _ _ _ (HD.out)).mono ?_); (rintro r wa ⟨rfl, hda⟩); (try dsimp only); have HD := Lib.hid hda; have c1 := hda.ld.c1; have cf := hda.ld.fr 1; clear hda)
                  | (go_at_call 67; (with_reducible refine (HDG.out _).mono ?_); (rintro r w7 ⟨rfl, rfl⟩); (try dsimp only))
                  | (go_at_call 41; (with_reducible refine (HWH.out _).mono ?_); (rintro r w7 ⟨rfl, rfl⟩); (try dsimp only)))
                have hd := HD.out.setI (q + 1) _ HQ1.out
                obtain ⟨wb, hwb⟩ : ∃ wb, wa.setCell ⟨m, 1, none⟩ (.int .i64 ((q : Int) + 1)) = wb := ⟨_, rfl⟩
                rw [hwb] at hd
                rw [hwb]
                have HD := Lib.hid hd
                clear hwb hd
                go_wp2_with (first
                  | (at_builtin; obtain ⟨v6, w6, hrun, hs6, A6, c6, rfl⟩ := HD.out.room z HZB.out (by have := HOL.out; omega); refine Lib.wpList_append_run_sl _ rfl (.tmp 45) (.tmp 51) 25 rfl _ _ rfl rfl hrun ?_; clear hrun; have HD6 := Lib.hid hs6; clear hs6))
                go_roundg (gk - 1)
                case rel => exact ⟨q + 1, -1, _, rfl, HD6, HU2, Lib.hid (by have h1 := HG.out; omega), Lib.hid (by have h2 := HQN.out; omega), Lib.hid (by rw [List.length_append]; have := H127.out; simp; omega), Lib.hid (by omega), HE2⟩
                case measure => have := HG.out; have := HQN.out; omega
      · rw [hw] at HWH
        rw [if_pos hw] at hun
        have HU2 := Lib.hid hun
        have HE2 : Hid (q + 1 + rowZ prB (zs.drop (q + 1)) = p + rowZ prB (zs.drop p)) := Lib.hid (by rw [if_pos (by unfold prB; rw [hw, Bool.or_true])] at hrw; have := HE.out; omega)
        clear hun hrw hw
        go_wp2_with (first
          | (go_at_call 37; (with_reducible refine (HP0.out _ _ _ (HD.out)).mono ?_); (rintro r wa ⟨rfl, hda⟩); (try dsimp only); have HD := Lib.hid hda; have c1 := hda.ld.c1; have cf := hda.ld.fr 1; clear hda)
          | (go_at_call 67; (with_reducible refine (HDG.out _).mono ?_); (rintro r w7 ⟨rfl, rfl⟩); (try dsimp only))
          | (go_at_call 41; (with_reducible refine (HWH.out _).mono ?_); (rintro r w7 ⟨rfl, rfl⟩); (try dsimp only)))
        go_roundg (gk - 1)
        case rel => exact ⟨q + 1, hf, out, rfl, Lib.hid (HD.out.setI (q + 1) _ HQ1.out), HU2, Lib.hid (by have h1 := HG.out; omega), Lib.hid (by have h2 := HQN.out; omega), HOL, HH, HE2⟩
        case measure => have := HG.out; have := HQN.out; omega
end Go.Proofs.Ytojbhckgegoldaa
