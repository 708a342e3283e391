/- Chapter 11, the document's own lexer: what is blank; regular signs in a row. -/
import Derived.Test.YtojbhckgegoldaaRl11
import Derived.Test.YtojbhckgegoldaaRx10
import Derived.Test.YtojbhckgegoldaaCopy
namespace Go.Proofs.Ytojbhckgegoldaa
open Go.RowKit
set_option linter.unusedVariables false
set_option maxRecDepth 100000

set_option maxHeartbeats 4000000 in
theorem rblankC (m n c p B : Nat) (T : TypeId) (X : List Value) (A : Option Addr) (zs : List Int) (w : World) (h : LD w m T X A n c p) (hb : Byt w B A n c zs) (hB : B ≤ m) (hn : n ≤ 1000000) (hp : p ≤ n) :
    Calls Try.prog 21 #[.pointer (some ⟨m, 0, none⟩)] w fun e w' => e = .returned (.tuple #[]) ∧ LD w' m T X A n c (blkP zs p) ∧ Only m w w' := by
  have HX0 := Lib.hid h
  have HB := Lib.hid hb
  have HL := Lib.hid hb.len
  have HPP := Lib.hid (fun q (hq : q ≤ n) W (hW : LD W m T X A n c q) (ho : Only m w W) => rpk0 m n c q B T X A zs w W hW ho hb hB (Nat.le_of_lt h.lt) hn (by omega))
  clear h hb
  go_enter Try.func21, Try.ntmps21
  go_wp2_with fail
  go_loopg [2] (n + 1) (fun gk s2 wr => ∃ q : Nat, Hid (LD wr m T X A n c q) ∧ Hid (Only m w wr) ∧ Hid (blkP zs p = blkP zs q) ∧ Hid (n < gk + q) ∧ Hid (q ≤ n))
  case atStart => exact ⟨p, HX0, Lib.hid (Only.refl _ _), Lib.hid rfl, Lib.hid (by omega), Lib.hid hp⟩
  case round =>
    obtain ⟨q, HX, HO, HE, HG, HQ⟩ := hrel
    have HP0 := Lib.hid (HPP.out q HQ.out)
    obtain ⟨y, hy⟩ : ∃ y, peekZ zs (q : Int) = y := ⟨_, rfl⟩
    rw [hy] at HP0
    have HY := Lib.hid hy
    have HWH := Lib.hid (fun W => rwhite y W)
    have HQB := Lib.hid (show q ≤ 1000000 by have := HQ.out; omega)
    have w1 : IntKind.i64.wrap ((q : Int) + 1) = (q : Int) + 1 := IntWalk.i64_in _ (by have := HQB.out; omega)
    have HNG := Lib.hid (show ¬ 0 ≤ y → y < 0 by omega)
    clear hy
    rcases hw : whB y with _ | _
    · rw [hw] at HWH
      by_cases h37 : y = 37
      · subst h37
        clear hw
        have HCM := Lib.hid (blkP_cm zs q HB.out.rng HY.out)
        go_wp2_with (first
          | (go_at_call 37; (with_reducible refine (HP0.out _ HX.out HO.out).mono ?_); (rintro r wa ⟨rfl, hxa, hoa⟩); (try dsimp only); have HX := Lib.hid hxa; have HO := Lib.hid hoa; have c1 := hxa.c1; have cf := hxa.fr 1; clear hxa hoa)
          | (go_at_call 41; refine (HWH.out _).mono ?_; (rintro r w7 ⟨rfl, rfl⟩); (try dsimp only)))
        obtain ⟨ko, rfl⟩ : ∃ ko, ko = gk := ⟨_, rfl⟩
        obtain ⟨wo, hwo⟩ : ∃ wo : World, wo = wa := ⟨_, rfl⟩
        clear hwo
        go_loopg [] (n + 1) (fun gk wr => ∃ q2 : Nat, Hid (LD wr m T X A n c q2) ∧ Hid (Only m w wr) ∧ Hid (q ≤ q2 ∧ q2 ≤ n ∧ q2 + rowZ cmB (zs.drop q2) = q + rowZ cmB (zs.drop q)) ∧ Hid (n < gk + q2))
        case atStart => exact ⟨q, HX, HO, Lib.hid ⟨Nat.le_refl _, HQ.out, rfl⟩, Lib.hid (by omega)⟩
        case round =>
          obtain ⟨q2, HX, HO, HE2, HG2⟩ := hrel
          have HP0 := Lib.hid (HPP.out q2 HE2.out.2.1)
          obtain ⟨y2, hy2⟩ : ∃ y, peekZ zs (q2 : Int) = y := ⟨_, rfl⟩
          rw [hy2] at HP0
          have HY2 := Lib.hid hy2
          have w2 : IntKind.i64.wrap ((q2 : Int) + 1) = (q2 : Int) + 1 := IntWalk.i64_in _ (by have := HE2.out.2.1; omega)
          clear hy2
          rcases hc : cmB y2 with _ | _
          · have hcs : y2 < 0 ∨ y2 = 10 ∨ y2 = 13 := by
              unfold cmB at hc
              simp at hc
              omega
            have HEE : Hid (q2 = q + rowZ cmB (zs.drop q)) := Lib.hid (by
              have h1 := row_out cmB zs q2 (by rw [HY2.out]; exact hc)
              have h2 := HE2.out.2.2
              omega)
            clear hc
            rcases hcs with hy0 | rfl | rfl
            · have e0 : decide (0 ≤ y2) = false := decide_eq_false (by omega)
              go_wp2_with (first
                | (go_at_call 37; (with_reducible refine (HP0.out _ HX.out HO.out).mono ?_); (rintro r wa ⟨rfl, hxa, hoa⟩); (try dsimp only); have HX := Lib.hid hxa; have HO := Lib.hid hoa; have c1 := hxa.c1; have cf := hxa.fr 1; clear hxa hoa))
              go_roundg (ko - 1)
              case rel => exact ⟨q2, HX, HO, Lib.hid (by rw [HE.out, HEE.out]; exact HCM.out.1), Lib.hid (by have h1 := HG.out; have h2 := HCM.out.2; have h3 := HEE.out; omega), Lib.hid HE2.out.2.1⟩
              case measure => have h1 := HG.out; have h2 := HQ.out; omega
            · go_wp2_with (first
                | (go_at_call 37; (with_reducible refine (HP0.out _ HX.out HO.out).mono ?_); (rintro r wa ⟨rfl, hxa, hoa⟩); (try dsimp only); have HX := Lib.hid hxa; have HO := Lib.hid hoa; have c1 := hxa.c1; have cf := hxa.fr 1; clear hxa hoa))
              go_roundg (ko - 1)
              case rel => exact ⟨q2, HX, HO, Lib.hid (by rw [HE.out, HEE.out]; exact HCM.out.1), Lib.hid (by have h1 := HG.out; have h2 := HCM.out.2; have h3 := HEE.out; omega), Lib.hid HE2.out.2.1⟩
              case measure => have h1 := HG.out; have h2 := HQ.out; omega
            · go_wp2_with (first
                | (go_at_call 37; (with_reducible refine (HP0.out _ HX.out HO.out).mono ?_); (rintro r wa ⟨rfl, hxa, hoa⟩); (try dsimp only); have HX := Lib.hid hxa; have HO := Lib.hid hoa; have c1 := hxa.c1; have cf := hxa.fr 1; clear hxa hoa))
              go_roundg (ko - 1)
              case rel => exact ⟨q2, HX, HO, Lib.hid (by rw [HE.out, HEE.out]; exact HCM.out.1), Lib.hid (by have h1 := HG.out; have h2 := HCM.out.2; have h3 := HEE.out; omega), Lib.hid HE2.out.2.1⟩
              case measure => have h1 := HG.out; have h2 := HQ.out; omega
          · have hcs : 0 ≤ y2 ∧ y2 ≠ 10 ∧ y2 ≠ 13 := by
              unfold cmB at hc
              simp at hc
              omega
            have HIN := Lib.hid (row_in cmB (by decide) zs q2 (by rw [HY2.out]; exact hc))
            obtain ⟨h0, h10, h13⟩ := hcs
            have n10 : (y2 != 10) = true := bne_iff_ne.2 h10
            have n13 : (y2 != 13) = true := bne_iff_ne.2 h13
            clear hc h10 h13
            go_wp2_with (first
              | (go_at_call 37; (with_reducible refine (HP0.out _ HX.out HO.out).mono ?_); (rintro r wa ⟨rfl, hxa, hoa⟩); (try dsimp only); have HX := Lib.hid hxa; have HO := Lib.hid hoa; have c1 := hxa.c1; have cf := hxa.fr 1; clear hxa hoa))
            have hq2n : q2 < n := by have h1 := HIN.out.1; have h2 := HL.out; omega
            have HQN := Lib.hid hq2n
            clear hq2n
            go_roundg (gk - 1)
            case rel => exact ⟨q2 + 1, Lib.hid (HX.out.setI (q2 + 1) _ (by omega)), Lib.hid (HO.out.set_ 1 _), Lib.hid ⟨by have := HE2.out.1; omega, by have := HQN.out; omega, by have h1 := HIN.out.2; have h2 := HE2.out.2.2; omega⟩, Lib.hid (by have := HG2.out; have := HQN.out; omega)⟩
            case measure => have := HG2.out; have := HQN.out; omega
      · by_cases h0 : 0 ≤ y
        · have y37 : (y == 37) = false := beq_eq_false_iff_ne.2 h37
          have HDN : Hid (blkP zs p = q) := Lib.hid (by rw [HE.out]; exact blkP_no zs q (by rw [HY.out]; exact hw) (by rw [HY.out]; exact h37))
          clear hw h37
          go_wp2_with (first
            | (go_at_call 37; (with_reducible refine (HP0.out _ HX.out HO.out).mono ?_); (rintro r wa ⟨rfl, hxa, hoa⟩); (try dsimp only); have HX := Lib.hid hxa; have HO := Lib.hid hoa; have c1 := hxa.c1; have cf := hxa.fr 1; clear hxa hoa)
            | (go_at_call 41; refine (HWH.out _).mono ?_; (rintro r w7 ⟨rfl, rfl⟩); (try dsimp only)))
          refine ⟨rfl, _, results_none rfl _ _ _, ?_⟩
          rw [HDN.out]
          exact ⟨rfl, HX.out, HO.out⟩
        · have y37 : (y == 37) = false := beq_eq_false_iff_ne.2 h37
          have e0 : decide (0 ≤ y) = false := decide_eq_false h0
          have HDN : Hid (blkP zs p = q) := Lib.hid (by rw [HE.out]; exact blkP_no zs q (by rw [HY.out]; exact hw) (by rw [HY.out]; exact h37))
          clear hw h37 h0
          go_wp2_with (first
            | (go_at_call 37; (with_reducible refine (HP0.out _ HX.out HO.out).mono ?_); (rintro r wa ⟨rfl, hxa, hoa⟩); (try dsimp only); have HX := Lib.hid hxa; have HO := Lib.hid hoa; have c1 := hxa.c1; have cf := hxa.fr 1; clear hxa hoa))
          refine ⟨rfl, _, results_none rfl _ _ _, ?_⟩
          rw [HDN.out]
          exact ⟨rfl, HX.out, HO.out⟩
    · rw [hw] at HWH
      have HS := Lib.hid (blkP_wh zs q (by rw [HY.out]; exact hw))
      have h0 : 0 ≤ y := by rcases wh_or y hw with rfl | rfl | rfl | rfl | rfl | rfl <;> omega
      clear hw
      go_wp2_with (first
        | (go_at_call 37; (with_reducible refine (HP0.out _ HX.out HO.out).mono ?_); (rintro r wa ⟨rfl, hxa, hoa⟩); (try dsimp only); have HX := Lib.hid hxa; have HO := Lib.hid hoa; have c1 := hxa.c1; have cf := hxa.fr 1; clear hxa hoa)
        | (go_at_call 41; refine (HWH.out _).mono ?_; (rintro r w7 ⟨rfl, rfl⟩); (try dsimp only)))
      have hqn : q < n := by have h1 := HS.out.1; have h2 := HL.out; omega
      have HQN := Lib.hid hqn
      clear hqn
      go_roundg (gk - 1)
      case rel => exact ⟨q + 1, Lib.hid (HX.out.setI (q + 1) _ (by omega)), Lib.hid (HO.out.set_ 1 _), Lib.hid (by rw [HE.out]; exact HS.out.2), Lib.hid (by have := HG.out; have := HQN.out; omega), Lib.hid (by have := HQN.out; omega)⟩
      case measure => have := HG.out; have := HQN.out; omega
end Go.Proofs.Ytojbhckgegoldaa
