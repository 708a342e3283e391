/- Chapter 10: the sort of entries: two stretches that rise are merged, the right one longer. -/
import Derived.Test.YtkloipjkialakaaSt10
namespace Go.Proofs.Ytkloipjkialakaa
open Go.RowKit Go.Sort
set_option linter.unusedVariables false
set_option maxRecDepth 100000

set_option maxHeartbeats 16000000 in
theorem symBC (w0 : World) (blk off cap B : Nat) (d0 : Array Rw) (N : Nat) (R : RW6 w0 blk off d0) (hC : CmpOk w0 blk B) (hs : N = d0.size) (hsz : N < 4611686018427387904) (NN : Nat) (IH0 : SymIH w0 blk off cap B N NN)
    (a m b mid : Nat) (d : Array Rw) (w : World) (P U V Q : List Rw) (hN : d.size = N) (S : SW6 w0 blk off d w) (hd : d.toList = P ++ (U ++ (V ++ Q))) (ha : P.length = a) (hU : a + U.length = m) (hV : m + V.length = b) (hu0 : 2 ≤ U.length) (hv0 : 2 ≤ V.length) (hSU : Srt keyR U) (hSV : Srt keyR V) (hNN : b - a ≤ NN + 1) (hmid : (a + b) / 2 = mid) (hA : m ≤ mid) (hbN : b ≤ N) :
    Calls Try.prog 98 #[.slice (some ⟨blk, off, none⟩) N cap, .int .i64 a, .int .i64 m, .int .i64 b, cmpF B] w (MrgP w0 blk off N P Q (U ++ V)) := by
  have IH := Lib.hid IH0
  clear IH0
  have hVL := hV
  obtain ⟨p, hp⟩ : ∃ p, mid + m - 1 = p := ⟨_, rfl⟩
  have am : a + 2 ≤ m := by omega
  have mb : m + 2 ≤ b := by omega
  have S0 := Lib.hid S
  have HD := Lib.hid hd
  have HN := Lib.hid hN
  have HS := Lib.hid hs
  have HA := Lib.hid ha
  have HSU := Lib.hid hSU
  have HSV := Lib.hid hSV
  have HUM : Hid (∀ i j, a ≤ i → i ≤ j → j < m → ltS d[j]!.s d[i]!.s = false) := Lib.hid (fun i j h1 h2 h3 => srt_at d P U (V ++ Q) hd hSU i j (by omega) h2 (by omega))
  have HVM : Hid (∀ i j, m ≤ i → i ≤ j → j < b → ltS d[j]!.s d[i]!.s = false) := Lib.hid (fun i j h1 h2 h3 => srt_at d (P ++ U) V Q (by rw [hd]; simp [List.append_assoc]) hSV i j (by simp; omega) h2 (by simp; omega))
  have mixed : Try.prog.follows .mixedOrders = true := by kernel_rfl
  have e1 : (((m : Int) - (a : Int)) == 1) = false := by simp; omega
  have e2 : (((b : Int) - (m : Int)) == 1) = false := by simp; omega
  have e3 : ((a : Int) + (b : Int)) / 2 = (mid : Int) := by omega
  have e4 : (mid : Int) + (m : Int) - 1 = (p : Int) := by omega
  have hma : a ≤ mid ∧ mid < b := by omega
  clear S hd hN hs ha hSU hSV
  have hAz : ¬ (mid : Int) < (m : Int) := by omega
  have hsr0 : a ≤ m := by omega
  have HBD : Hid (∀ c, a ≤ c → c < m → a ≤ c ∧ c < m ∧ m ≤ p - c ∧ p - c < b ∧ c ≤ p) := Lib.hid (fun c h1 h2 => by omega)
  go_enter Try.func98, Try.ntmps98
  go_wp2_with fail
  clear e1 e2 e3 e4
  try clear e5
  go_loopw [20, 21] (fun sv rv wr => ∃ (s r : Nat), sv = .int .i64 s ∧ rv = .int .i64 r ∧ a ≤ s ∧ s ≤ r ∧ r ≤ m ∧ Hid (∀ c, a ≤ c → c < s → ltS d[p - c]!.s d[c]!.s = false) ∧ Hid (∀ c, r ≤ c → c < m → ltS d[p - c]!.s d[c]!.s = true) ∧ Hid (SW6 w0 blk off d wr)) (fun sv rv _ => (intOf rv).toNat - (intOf sv).toNat)
  case atStart => exact ⟨a, m, rfl, rfl, Nat.le_refl _, hsr0, Nat.le_refl _, Lib.hid (fun c h1 h2 => by omega), Lib.hid (fun c h1 h2 => by omega), S0⟩
  case round =>
    clear S0
    obtain ⟨s, r, rfl, rfl, hs0, hsr, hr0, HLO, HHI, SH⟩ := hrel
    by_cases hlt : s < r
    · have hltz : (s : Int) < r := by omega
      obtain ⟨c, hc⟩ : ∃ c, (s + r) / 2 = c := ⟨_, rfl⟩
      have hsc : s ≤ c := by omega
      have hcr : c < r := by omega
      have hm : ((s : Int) + (r : Int)) / 2 = (c : Int) := by omega
      have hb4 := HBD.out c (by omega) (by omega)
      obtain ⟨q, hq⟩ : ∃ q, p - c = q := ⟨_, rfl⟩
      have hpq : (p : Int) - (c : Int) = (q : Int) := by omega
      have hpw : IntKind.i64.wrap (q : Int) = (q : Int) := IntWalk.i64_in _ (by omega)
      have hcN : (c : Int) < (N : Int) := by omega
      have hqN : (q : Int) < (N : Int) := by omega
      have hzs : d.size = d0.size := by rw [HN.out]; exact HS.out
      obtain ⟨x, hx⟩ : ∃ x, d[q]! = x := ⟨_, rfl⟩
      obtain ⟨y, hy⟩ : ∃ y, d[c]! = y := ⟨_, rfl⟩
      have cx := SW6.cells2 SH.out R hzs q (by rw [HN.out]; omega) x hx
      have cy := SW6.cells2 SH.out R hzs c (by rw [HN.out]; omega) y hy
      have hcmp := SW6.cmp SH.out hC x y
      have x0 := fun n os => (cx n os).1
      have x1 := fun n os => (cx n os).2.1
      have x2 := fun n os => (cx n os).2.2.1
      have x3 := fun n os => (cx n os).2.2.2.1
      have x4 := fun n os => (cx n os).2.2.2.2.1
      have x5 := fun n os => (cx n os).2.2.2.2.2
      have y0 := fun n os => (cy n os).1
      have y1 := fun n os => (cy n os).2.1
      have y2 := fun n os => (cy n os).2.2.1
      have y3 := fun n os => (cy n os).2.2.2.1
      have y4 := fun n os => (cy n os).2.2.2.2.1
      have y5 := fun n os => (cy n os).2.2.2.2.2
      cases hlv : ltS x.s y.s with
      | true =>
        have hd90 : decide (cfR x y < 0) = true := by unfold cfR; rw [cmpZ_neg]; exact hlv
        have hv90 : cfR x y < 0 := of_decide_eq_true hd90
        have HHI2 : Hid (∀ c', c ≤ c' → c' < m → ltS d[p - c']!.s d[c']!.s = true) := Lib.hid (fun c' h1 h2 => by
          have hb5 := HBD.out c' (by omega) h2
          have k1 := HUM.out c c' (by omega) h1 (by omega)
          have k2 := HVM.out (p - c') q (by omega) (by omega) (by omega)
          rw [hx] at k2
          rw [hy] at k1
          exact ltS_lt_le (ltS_le_lt k2 hlv) k1)
        clear cx cy hx hy hzs hq hc hb4
        go_wp2_with fail
        go_quiet_grown (first | (go_at_call 81; refine Calls.grown_of (hcmp _ _)))
        have S2 : Hid (SW6 w0 blk off d (grow (wr.drewN nq) osq)) := Lib.hid (SWK.grown SH.out nq osq)
        clear x0 x1 x2 x3 x4 x5 y0 y1 y2 y3 y4 y5 hcmp SH
        generalize grow (wr.drewN nq) osq = W9 at S2 ⊢
        clear nq osq
        go_wp2_with fail
        go_roundw
        case rel => exact ⟨s, c, rfl, rfl, hs0, hsc, by omega, HLO, HHI2, S2⟩
        case measure => simp [intOf]; omega
      | false =>
        have hd90 : decide (cfR x y < 0) = false := by unfold cfR; rw [cmpZ_neg]; exact hlv
        have hv90 : ¬ cfR x y < 0 := of_decide_eq_false hd90
        have HLO2 : Hid (∀ c', a ≤ c' → c' < c + 1 → ltS d[p - c']!.s d[c']!.s = false) := Lib.hid (fun c' h1 h2 => by
          have hb5 := HBD.out c' h1 (by omega)
          have k1 := HUM.out c' c (by omega) (by omega) (by omega)
          have k2 := HVM.out q (p - c') (by omega) (by omega) (by omega)
          rw [hx] at k2
          rw [hy] at k1
          exact ltS_le_trans (ltS_le_trans k1 hlv) k2)
        clear cx cy hx hy hzs hq hc hb4
        go_wp2_with fail
        go_quiet_grown (first | (go_at_call 81; refine Calls.grown_of (hcmp _ _)))
        have S2 : Hid (SW6 w0 blk off d (grow (wr.drewN nq) osq)) := Lib.hid (SWK.grown SH.out nq osq)
        clear x0 x1 x2 x3 x4 x5 y0 y1 y2 y3 y4 y5 hcmp SH
        generalize grow (wr.drewN nq) osq = W9 at S2 ⊢
        clear nq osq
        go_wp2_with fail
        go_roundw
        case rel => exact ⟨c + 1, r, by go_num, rfl, by omega, by omega, hr0, HLO2, HHI, S2⟩
        case measure => simp [intOf]; omega
    · obtain rfl : s = r := by omega
      obtain ⟨U1, U2, hU12, hU1⟩ : ∃ U1 U2, U = U1 ++ U2 ∧ U1.length = s - a := ⟨U.take (s - a), U.drop (s - a), (List.take_append_drop _ _).symm, by simp; omega⟩
      obtain ⟨en, hen⟩ : ∃ en, mid + m - s = en := ⟨_, rfl⟩
      have hez : (mid : Int) + (m : Int) - (s : Int) = (en : Int) := by omega
      obtain ⟨V1, V2, hV12, hV1⟩ : ∃ V1 V2, V = V1 ++ V2 ∧ V1.length = en - m := ⟨V.take (en - m), V.drop (en - m), (List.take_append_drop _ _).symm, by simp; omega⟩
      have hUl : U1.length + U2.length = m - a := by rw [hU12] at hU; simp at hU; omega
      have hVl : V1.length + V2.length = b - m := by rw [hV12] at hV; simp at hV; omega
      have HX1 : Hid (∀ u ∈ U2, ∀ v ∈ V1, ltS v.s u.s = true) := Lib.hid (fun u hu v hv => by
        obtain ⟨i, hi1, hi2, rfl⟩ := mem_at d (P ++ U1) U2 (V1 ++ (V2 ++ Q)) (by rw [HD.out, hU12, hV12]; simp [List.append_assoc]) u hu
        obtain ⟨j, hj1, hj2, rfl⟩ := mem_at d (P ++ (U1 ++ U2)) V1 (V2 ++ Q) (by rw [HD.out, hU12, hV12]; simp [List.append_assoc]) v hv
        have := HA.out
        simp at hi1 hi2 hj1 hj2
        have k0 := HHI.out s (Nat.le_refl _) (by omega)
        have k1 := HUM.out s i (by omega) (by omega) (by omega)
        have k2 := HVM.out j (p - s) (by omega) (by omega) (by omega)
        exact ltS_lt_le (ltS_le_lt k2 k0) k1)
      have HX2 : Hid (∀ u ∈ U1, ∀ v ∈ V2, ltS v.s u.s = false) := Lib.hid (fun u hu v hv => by
        obtain ⟨i, hi1, hi2, rfl⟩ := mem_at d P U1 (U2 ++ (V1 ++ (V2 ++ Q))) (by rw [HD.out, hU12, hV12]; simp [List.append_assoc]) u hu
        obtain ⟨j, hj1, hj2, rfl⟩ := mem_at d (P ++ (U1 ++ (U2 ++ V1))) V2 Q (by rw [HD.out, hU12, hV12]; simp [List.append_assoc]) v hv
        have := HA.out
        simp at hi1 hi2 hj1 hj2
        have k0 := HLO.out (s - 1) (by omega) (by omega)
        have k1 := HUM.out i (s - 1) (by omega) (by omega) (by omega)
        have k2 := HVM.out (p - (s - 1)) j (by omega) (by omega) (by omega)
        exact ltS_le_trans (ltS_le_trans k1 k0) k2)
      have HSU1 : Hid (Srt keyR (U1 ++ U2)) := Lib.hid (by rw [← hU12]; exact HSU.out)
      have HSV1 : Hid (Srt keyR (V1 ++ V2)) := Lib.hid (by rw [← hV12]; exact HSV.out)
      have HD1 : Hid (d.toList = P ++ (U1 ++ (U2 ++ (V1 ++ (V2 ++ Q))))) := Lib.hid (by rw [HD.out, hU12, hV12]; simp [List.append_assoc])
      have HUV : Hid (U ++ V = (U1 ++ U2) ++ (V1 ++ V2)) := Lib.hid (by rw [hU12, hV12])
      have HR0 : Hid (s < m → s < mid → ∀ W, SW6 w0 blk off d W → Calls Try.prog 100 #[.slice (some ⟨blk, off, none⟩) N cap, .int .i64 s, .int .i64 m, .int .i64 en, cmpF B] W fun e w' => e = .returned (.tuple #[]) ∧ ∃ d' : Array Rw, d'.toList = (P ++ U1) ++ (V1 ++ (U2 ++ (V2 ++ Q))) ∧ d'.size = N ∧ SW6 w0 blk off d' w') := Lib.hid (fun h1 h2 W hW =>
        rotateC w0 blk off cap s m en d0 d (cmpF B) N W R (by rw [HN.out]; exact HS.out) HN.out hW (P ++ U1) U2 V1 (V2 ++ Q) (by rw [HD1.out]; simp [List.append_assoc]) (by have := HA.out; simp; omega) (by omega) (by omega) (by omega) (by omega) (by rw [HN.out]; exact hsz))
      have HRL : Hid (∀ d1 W, d1.toList = (P ++ U1) ++ (V1 ++ (U2 ++ (V2 ++ Q))) → d1.size = N → SW6 w0 blk off d1 W → a < s → s < mid → Calls Try.prog 98 #[.slice (some ⟨blk, off, none⟩) N cap, .int .i64 a, .int .i64 s, .int .i64 mid, cmpF B] W (MrgP w0 blk off N P (U2 ++ (V2 ++ Q)) (U1 ++ V1))) := Lib.hid (fun d1 W k1 k2 k3 k4 k5 =>
        IH.out a s mid d1 W P U1 V1 (U2 ++ (V2 ++ Q)) k2 k3 (by rw [k1]; simp [List.append_assoc]) HA.out (by omega) (by omega) (by omega) (by omega) (Srt.app.1 HSU1.out).1 (Srt.app.1 HSV1.out).1 (by omega))
      have HRR : Hid (∀ d1 W (N1 : List Rw), d1.toList = P ++ (N1 ++ (U2 ++ (V2 ++ Q))) → N1.length = mid - a → d1.size = N → SW6 w0 blk off d1 W → s < m → en < b → Calls Try.prog 98 #[.slice (some ⟨blk, off, none⟩) N cap, .int .i64 mid, .int .i64 en, .int .i64 b, cmpF B] W (MrgP w0 blk off N (P ++ N1) Q (U2 ++ V2))) := Lib.hid (fun d1 W N1 k1 kl k2 k3 k4 k5 =>
        IH.out mid en b d1 W (P ++ N1) U2 V2 Q k2 k3 (by rw [k1]; simp [List.append_assoc]) (by have := HA.out; simp; omega) (by omega) (by omega) (by omega) (by omega) (Srt.app.1 HSU1.out).2.1 (Srt.app.1 HSV1.out).2.1 (by omega))
      have HE1 : Hid (¬ (s < m ∧ s < mid) → U2 ++ (V1 ++ (V2 ++ Q)) = V1 ++ (U2 ++ (V2 ++ Q))) := Lib.hid (fun h => by
        by_cases h5 : s < m
        · obtain rfl : V1 = [] := List.eq_nil_of_length_eq_zero (by omega)
          rfl
        · obtain rfl : U2 = [] := List.eq_nil_of_length_eq_zero (by omega)
          rfl)
      have HE2 : Hid (¬ (a < s ∧ s < mid) → Srt keyR (U1 ++ V1)) := Lib.hid (fun h => by
        by_cases h5 : a < s
        · obtain rfl : V1 = [] := List.eq_nil_of_length_eq_zero (by omega)
          simpa using (Srt.app.1 HSU1.out).1
        · obtain rfl : U1 = [] := List.eq_nil_of_length_eq_zero (by omega)
          exact (Srt.app.1 HSV1.out).1)
      have HE3 : Hid (¬ (s < m ∧ en < b) → Srt keyR (U2 ++ V2)) := Lib.hid (fun h => by
        by_cases h5 : s < m
        · obtain rfl : V2 = [] := List.eq_nil_of_length_eq_zero (by omega)
          simpa using (Srt.app.1 HSU1.out).2.1
        · obtain rfl : U2 = [] := List.eq_nil_of_length_eq_zero (by omega)
          exact (Srt.app.1 HSV1.out).2.1)
      have HUVl : Hid ((U1 ++ V1).length = mid - a) := Lib.hid (by simp; omega)
      have HU1 := Lib.hid hU1
      have HU2 := Lib.hid hUl
      have HV1 := Lib.hid hV1
      have HV2 := Lib.hid hVl
      clear hU12 hV12 HUM HVM HBD HLO HHI IH hlt HSU HSV hU1 hUl hV1 hVl
      by_cases hcA : s < m
      all_goals by_cases hcB : s < mid
      all_goals try (exfalso; omega)
      all_goals have zA1 : ∀ (h : s < m), (s : Int) < m := fun h => by omega
      all_goals have zA2 : ∀ (h : ¬ s < m), ¬ (s : Int) < m := fun h => by omega
      all_goals have zB1 : ∀ (h : s < mid), (s : Int) < mid := fun h => by omega
      all_goals have zB2 : ∀ (h : ¬ s < mid), ¬ (s : Int) < mid := fun h => by omega
      all_goals have zC1 : ∀ (h : s < mid), (m : Int) < en := fun h => by omega
      all_goals have zC2 : ∀ (h : ¬ s < mid), ¬ (m : Int) < en := fun h => by omega
      all_goals have zD1 : ∀ (h : s < m), (mid : Int) < en := fun h => by omega
      all_goals have zD2 : ∀ (h : ¬ s < m), ¬ (mid : Int) < en := fun h => by omega
      all_goals (first | have yA := zA1 hcA | have yA := zA2 hcA)
      all_goals (first | have yB := zB1 hcB | have yB := zB2 hcB)
      all_goals (first | have yC := zC1 hcB | have yC := zC2 hcB)
      all_goals (first | have yD := zD1 hcA | have yD := zD2 hcA)
      all_goals clear zA1 zA2 zB1 zB2 zC1 zC2 zD1 zD2
      all_goals (first | (have HR1 := Lib.hid (HR0.out hcA hcB wr SH.out)) | (have HL1 : Hid (d.toList = (P ++ U1) ++ (V1 ++ (U2 ++ (V2 ++ Q)))) := Lib.hid (by rw [HD1.out, HE1.out (by omega)]; simp [List.append_assoc]); have HZ1 := HN; have HS1 := SH))
      all_goals clear SH HR0
      all_goals go_upto_region 41 with (go_at_call 100; (with_reducible refine HR1.out.mono ?_); (rintro r w2 ⟨rfl, d1, hl1, hz1, hs1⟩); have HL1 := Lib.hid hl1; have HZ1 := Lib.hid hz1; have HS1 := Lib.hid hs1; clear hl1 hz1 hs1 HR1)
      all_goals clear yC
      all_goals by_cases hcC : a < s
      all_goals try (exfalso; omega)
      all_goals have zA1 : ∀ (h : a < s), (a : Int) < s := fun h => by omega
      all_goals have zA2 : ∀ (h : ¬ a < s), ¬ (a : Int) < s := fun h => by omega
      all_goals (first | have yE := zA1 hcC | have yE := zA2 hcC)
      all_goals clear zA1 zA2
      all_goals (first | (have HR2 := Lib.hid (HRL.out _ _ HL1.out HZ1.out HS1.out hcC hcB); clear HL1 HZ1 HS1) | (have HL2 := Lib.hid (app_eqS HL1.out); have HZ2 := HZ1; have HS2 := HS1; have HT2 : Hid (Srt keyR (U1 ++ V1) ∧ Stb keyR (U1 ++ V1) (U1 ++ V1) ∧ (U1 ++ V1).length = mid - a) := Lib.hid ⟨HE2.out (by omega), Stb.refl _, HUVl.out⟩; clear HL1 HZ1 HS1))
      all_goals go_upto_region 43 with (go_at_call 98; (with_reducible refine HR2.out.mono ?_); (rintro r w2 ⟨rfl, d2, N1, hl2, ht2, hb2, hz2, hs2⟩); have HL2 := Lib.hid hl2; have HZ2 := Lib.hid hz2; have HS2 := Lib.hid hs2; have HT2 := Lib.hid (And.intro ht2 (And.intro hb2 (show N1.length = mid - a from hb2.len.trans HUVl.out))); clear hl2 ht2 hb2 hz2 hs2 HR2)
      all_goals clear yE HRL
      all_goals by_cases hcD : en < b
      all_goals try (exfalso; omega)
      all_goals have zA1 : ∀ (h : en < b), (en : Int) < b := fun h => by omega
      all_goals have zA2 : ∀ (h : ¬ en < b), ¬ (en : Int) < b := fun h => by omega
      all_goals (first | have yE := zA1 hcD | have yE := zA2 hcD)
      all_goals clear zA1 zA2
      all_goals (first | (have HR3 := Lib.hid (HRR.out _ _ _ HL2.out HT2.out.2.2 HZ2.out HS2.out hcA hcD); clear HL2 HZ2 HS2) | (have HL3 := Lib.hid (app_eqU HL2.out); have HZ3 := HZ2; have HS3 := HS2; have HT3 : Hid (Srt keyR (U2 ++ V2) ∧ Stb keyR (U2 ++ V2) (U2 ++ V2)) := Lib.hid ⟨HE3.out (by omega), Stb.refl _⟩; clear HL2 HZ2 HS2))
      all_goals go_wp2_with (go_at_call 98; (with_reducible refine HR3.out.mono ?_); (rintro r w2 ⟨rfl, d3, N2, hl3, ht3, hb3, hz3, hs3⟩); have HL3 := Lib.hid (app_eqT hl3); have HZ3 := Lib.hid hz3; have HS3 := Lib.hid hs3; have HT3 := Lib.hid (And.intro ht3 hb3); clear hl3 ht3 hb3 hz3 hs3 HR3)
      all_goals go_end0
      all_goals exact ⟨rfl, _, _, HL3.out, (merge_parts HSU1.out HSV1.out HX1.out HX2.out HT2.out.1 HT3.out.1 HT2.out.2.1 HT3.out.2).1, by rw [HUV.out]; exact (merge_parts HSU1.out HSV1.out HX1.out HX2.out HT2.out.1 HT3.out.1 HT2.out.2.1 HT3.out.2).2, HZ3.out, HS3.out⟩
end Go.Proofs.Ytkloipjkialakaa
