/- Chapter 11, the project's own: what stands behind a backslash. -/
import Derived.Test.YtojbhckgegoldaaLw11
namespace Go.Proofs.Ytojbhckgegoldaa
open Go.RowKit
set_option linter.unusedVariables false
set_option maxRecDepth 100000

/-- What 'escaped' answers. -/
def escE (zs : List Int) (n p : Nat) : Int × Nat := if p < n then escZ zs p else (-1, p)
set_option maxHeartbeats 2000000 in
theorem pescC (h g n c p B : Nat) (A : Option Addr) (zs : List Int) (w : World) (hx : LX w h g A n c p) (hb : Byt w B A n c zs) (hB : B ≤ g) (hn : n ≤ 1000000) :
    Calls Try.prog 64 #[.pointer (some ⟨h, 0, none⟩)] w fun e w' => e = .returned (.int .i64 (escE zs n p).1) ∧ LX w' h g A n c (escE zs n p).2 ∧ Only g w w' := by
  have HX := Lib.hid hx
  have HB := Lib.hid hb
  have HGW := Lib.hid (Nat.le_of_lt hx.cu.lt)
  have HNX := Lib.hid (lxnext h g n c p B A zs w hx hb hn)
  have HLI := Lib.hid (fun W q x (hW : LX W h g A n c q) (ho : Only g w W) => plineC h g n c q B A zs x W hW (HB.out.only ho hB HGW.out) hn)
  have HOC := Lib.hid (fun W q n0 (hW : LX W h g A n c q) (ho : Only g w W) h0 h7 => poctalC h g n c q B A zs n0 W hW (HB.out.only ho hB HGW.out) hB hn h0 h7)
  have hl := hb.len
  have k0 := hx.k0
  have hpl := hx.pl
  have hbd := peekZ_bd zs hb.rng (p : Int)
  obtain ⟨y, hy⟩ : ∃ y, peekZ zs (p : Int) = y := ⟨_, rfl⟩
  rw [hy] at HNX hbd
  by_cases hlt : 0 ≤ y
  · have hp : p < n := by have := peekZ_lt zs p (by omega); omega
    rw [nxP_in hp] at HNX
    rw [escE, if_pos hp]
    clear hx hb hl hpl hp
    obtain rfl | rfl | rfl | rfl | rfl | hy1 : y = 110 ∨ y = 114 ∨ y = 116 ∨ y = 98 ∨ y = 102 ∨ (y ≠ 110 ∧ y ≠ 114 ∧ y ≠ 116 ∧ y ≠ 98 ∧ y ≠ 102) := by omega
    · have hE : escZ zs p = (10, p + 1) := by simp [escZ, hy]
      rw [hE]
      clear hE hy
      go_enter Try.func64, Try.ntmps64
      go_wp2_with (go_at_call 62; refine HNX.out.mono ?_; (rintro e w2 ⟨rfl, hx2, ho2⟩); have HX2 := Lib.hid hx2; have HO2 := Lib.hid ho2; clear hx2 ho2)
      go_ret
      exact ⟨rfl, HX2.out, HO2.out⟩
    · have hE : escZ zs p = (13, p + 1) := by simp [escZ, hy]
      rw [hE]
      clear hE hy
      go_enter Try.func64, Try.ntmps64
      go_wp2_with (go_at_call 62; refine HNX.out.mono ?_; (rintro e w2 ⟨rfl, hx2, ho2⟩); have HX2 := Lib.hid hx2; have HO2 := Lib.hid ho2; clear hx2 ho2)
      go_ret
      exact ⟨rfl, HX2.out, HO2.out⟩
    · have hE : escZ zs p = (9, p + 1) := by simp [escZ, hy]
      rw [hE]
      clear hE hy
      go_enter Try.func64, Try.ntmps64
      go_wp2_with (go_at_call 62; refine HNX.out.mono ?_; (rintro e w2 ⟨rfl, hx2, ho2⟩); have HX2 := Lib.hid hx2; have HO2 := Lib.hid ho2; clear hx2 ho2)
      go_ret
      exact ⟨rfl, HX2.out, HO2.out⟩
    · have hE : escZ zs p = (8, p + 1) := by simp [escZ, hy]
      rw [hE]
      clear hE hy
      go_enter Try.func64, Try.ntmps64
      go_wp2_with (go_at_call 62; refine HNX.out.mono ?_; (rintro e w2 ⟨rfl, hx2, ho2⟩); have HX2 := Lib.hid hx2; have HO2 := Lib.hid ho2; clear hx2 ho2)
      go_ret
      exact ⟨rfl, HX2.out, HO2.out⟩
    · have hE : escZ zs p = (12, p + 1) := by simp [escZ, hy]
      rw [hE]
      clear hE hy
      go_enter Try.func64, Try.ntmps64
      go_wp2_with (go_at_call 62; refine HNX.out.mono ?_; (rintro e w2 ⟨rfl, hx2, ho2⟩); have HX2 := Lib.hid hx2; have HO2 := Lib.hid ho2; clear hx2 ho2)
      go_ret
      exact ⟨rfl, HX2.out, HO2.out⟩
    · obtain ⟨a1, a2, a3, a4, a5⟩ := hy1
      obtain rfl | rfl | hy2 : y = 13 ∨ y = 10 ∨ (y ≠ 13 ∧ y ≠ 10) := by omega
      · have hE : escZ zs p = (-1, if peekZ zs ((p + 1 : Nat) : Int) = 10 then p + 2 else p + 1) := by simp [escZ, hy]
        rw [hE]
        have HLI2 := Lib.hid (fun W hW ho => HLI.out W (p + 1) 13 hW ho)
        have eQ : (p + 1 + if peekZ zs ((p + 1 : Nat) : Int) = 10 then 1 else 0) = if peekZ zs ((p + 1 : Nat) : Int) = 10 then p + 2 else p + 1 := by split <;> omega
        simp only [if_true, eQ] at HLI2
        obtain ⟨qq, hqq⟩ : ∃ qq, (if peekZ zs ((p + 1 : Nat) : Int) = 10 then p + 2 else p + 1) = qq := ⟨_, rfl⟩
        rw [hqq] at HLI2 ⊢
        clear eQ hqq
        clear hE hy
        go_enter Try.func64, Try.ntmps64
        go_wp2_with (first
          | (go_at_call 62; refine HNX.out.mono ?_; (rintro e w2 ⟨rfl, hx2, ho2⟩); have HX2 := Lib.hid hx2; have HO2 := Lib.hid ho2; clear hx2 ho2)
          | (go_at_call 63; refine (HLI2.out _ HX2.out HO2.out).mono ?_; (rintro e w3 ⟨rfl, hx3, ho3⟩); have HX3 := Lib.hid hx3; have HO3 := Lib.hid (HO2.out.trans ho3); clear hx3 ho3))
        go_ret
        exact ⟨rfl, HX3.out, HO3.out⟩
      · have hE : escZ zs p = (-1, p + 1) := by simp [escZ, hy]
        rw [hE]
        have HLI2 := Lib.hid (fun W hW ho => HLI.out W (p + 1) 10 hW ho)
        rw [show (if (10 : Int) = 13 then (p + 1 + if peekZ zs ((p + 1 : Nat) : Int) = 10 then 1 else 0) else p + 1) = p + 1 from rfl] at HLI2
        clear hE hy
        go_enter Try.func64, Try.ntmps64
        go_wp2_with (first
          | (go_at_call 62; refine HNX.out.mono ?_; (rintro e w2 ⟨rfl, hx2, ho2⟩); have HX2 := Lib.hid hx2; have HO2 := Lib.hid ho2; clear hx2 ho2)
          | (go_at_call 63; refine (HLI2.out _ HX2.out HO2.out).mono ?_; (rintro e w3 ⟨rfl, hx3, ho3⟩); have HX3 := Lib.hid hx3; have HO3 := Lib.hid (HO2.out.trans ho3); clear hx3 ho3))
        go_ret
        exact ⟨rfl, HX3.out, HO3.out⟩
      · obtain ⟨a6, a7⟩ := hy2
        by_cases ho : 48 ≤ y ∧ y ≤ 55
        · have hE : escZ zs p = octR zs (p + 1) (y - 48) := by
            have hob : octB y = true := by unfold octB; simpa using ho
            simp only [escZ, hy, a1, a2, a3, a4, a5, a6, a7, if_false, hob, if_true, octR]
          rw [hE]
          have HOC2 := Lib.hid (fun W hW ho' => HOC.out W (p + 1) (y - 48) hW ho' (by omega) (by omega))
          obtain ⟨R, hR⟩ : ∃ R, octR zs (p + 1) (y - 48) = R := ⟨_, rfl⟩
          rw [hR] at HOC2 ⊢
          clear hE hy hR a1 a2 a3 a4 a5 a6 a7 hbd hlt
          obtain rfl | rfl | rfl | rfl | rfl | rfl | rfl | rfl : y = 48 ∨ y = 49 ∨ y = 50 ∨ y = 51 ∨ y = 52 ∨ y = 53 ∨ y = 54 ∨ y = 55 := by omega
          all_goals
            clear ho
            simp only [Int.reduceSub] at HOC2
            go_enter Try.func64, Try.ntmps64
            go_wp2_with (first
              | (go_at_call 62; refine HNX.out.mono ?_; (rintro e w2 ⟨rfl, hx2, ho2⟩); have HX2 := Lib.hid hx2; have HO2 := Lib.hid ho2; clear hx2 ho2)
              | (go_at_call 78; refine (HOC2.out _ HX2.out HO2.out).mono ?_; (rintro e w3 ⟨rfl, hx3, ho3⟩); have HX3 := Lib.hid hx3; have HO3 := Lib.hid (HO2.out.trans ho3); clear hx3 ho3))
            go_ret
            exact ⟨rfl, HX3.out, HO3.out⟩
        · have hE : escZ zs p = (y, p + 1) := by
            have hob : octB y = false := by unfold octB; simpa using ho
            simp [escZ, hy, a1, a2, a3, a4, a5, a6, a7, hob]
          rw [hE]
          have b1 : (y == 110) = false := beq_eq_false_iff_ne.2 a1
          have b2 : (y == 114) = false := beq_eq_false_iff_ne.2 a2
          have b3 : (y == 116) = false := beq_eq_false_iff_ne.2 a3
          have b4 : (y == 98) = false := beq_eq_false_iff_ne.2 a4
          have b5 : (y == 102) = false := beq_eq_false_iff_ne.2 a5
          have b6 : (y == 13) = false := beq_eq_false_iff_ne.2 a6
          have b7 : (y == 10) = false := beq_eq_false_iff_ne.2 a7
          have d0 : (y == 48) = false := beq_eq_false_iff_ne.2 (by omega)
          have d1 : (y == 49) = false := beq_eq_false_iff_ne.2 (by omega)
          have d2 : (y == 50) = false := beq_eq_false_iff_ne.2 (by omega)
          have d3 : (y == 51) = false := beq_eq_false_iff_ne.2 (by omega)
          have d4 : (y == 52) = false := beq_eq_false_iff_ne.2 (by omega)
          have d5 : (y == 53) = false := beq_eq_false_iff_ne.2 (by omega)
          have d6 : (y == 54) = false := beq_eq_false_iff_ne.2 (by omega)
          have d7 : (y == 55) = false := beq_eq_false_iff_ne.2 (by omega)
          clear hE hy a1 a2 a3 a4 a5 a6 a7 hbd hlt ho
          go_enter Try.func64, Try.ntmps64
          go_wp2_with (go_at_call 62; refine HNX.out.mono ?_; (rintro e w2 ⟨rfl, hx2, ho2⟩); have HX2 := Lib.hid hx2; have HO2 := Lib.hid ho2; clear hx2 ho2)
          go_ret
          exact ⟨rfl, HX2.out, HO2.out⟩
  · obtain rfl : y = -1 := by omega
    have hp : ¬ p < n := fun hp => by
      have h1 := peekZ_in zs p (by omega)
      rw [getD_eq zs p (by omega)] at h1
      have := (hb.rng _ (List.getElem_mem (show p < zs.length by omega))).1
      omega
    rw [escE, if_neg hp]
    rw [nxP, if_neg hp] at HNX
    clear hx hb hl hpl hp hy hlt hbd
    go_enter Try.func64, Try.ntmps64
    go_wp2_with (go_at_call 62; refine HNX.out.mono ?_; (rintro e w2 ⟨rfl, hx2, ho2⟩); have HX2 := Lib.hid hx2; have HO2 := Lib.hid ho2; clear hx2 ho2)
    go_ret
    exact ⟨rfl, HX2.out, HO2.out⟩
theorem esc_bd (zs : List Int) (hr : ∀ z ∈ zs, 0 ≤ z ∧ z < 256) (p : Nat) (h : p < zs.length) : -1 ≤ (escZ zs p).1 ∧ (escZ zs p).1 < 256 ∧ p < (escZ zs p).2 ∧ (escZ zs p).2 ≤ zs.length := by
  have hb := peekZ_bd zs hr (p : Int)
  have l1 : peekZ zs ((p + 1 : Nat) : Int) = 10 → p + 1 < zs.length := fun e => peekZ_lt zs (p + 1) (by omega)
  have l2 : octB (peekZ zs ((p + 1 : Nat) : Int)) = true → p + 1 < zs.length := fun e => peekZ_lt zs (p + 1) (by have := oct_in _ e; omega)
  have l3 : octB (peekZ zs ((p + 2 : Nat) : Int)) = true → p + 2 < zs.length := fun e => peekZ_lt zs (p + 2) (by have := oct_in _ e; omega)
  unfold escZ
  repeat' split
  all_goals (dsimp only; first | omega | (refine ⟨?_, ?_, ?_, ?_⟩ <;> first | omega | (rename_i e; have := l1 e; omega) | (rename_i e _; have := l2 e; omega) | (rename_i e; have := l2 e; omega) | (rename_i e; have := l3 e; omega)))
end Go.Proofs.Ytojbhckgegoldaa
