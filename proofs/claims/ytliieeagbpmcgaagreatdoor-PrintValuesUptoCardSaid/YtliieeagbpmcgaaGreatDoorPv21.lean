/- Contracts of functions that the law calls, and what they lean on (a part). -/
import Derived.Test.YtliieeagbpmcgaaGreatDoorPv13
import Derived.Test.YtliieeagbpmcgaaGreatDoorPv14
import Derived.Test.YtliieeagbpmcgaaGreatDoorPv19
import Derived.Test.YtliieeagbpmcgaaGreatDoorPv20
namespace Go.Proofs.YtliieeagbpmcgaaGreatDoor
section
open Go.RowKit
set_option linter.unusedVariables false
set_option maxRecDepth 100000
theorem all_snoc (zs : List Int) (k : Nat) (hk : k < zs.length) : (zs.take (k + 1)).all txB = ((zs.take k).all txB && txB (zs.getD k 0)) := by
  rw [take_snocZ zs k hk, List.all_append]
  simp
theorem txB_no (z : Int) (h : z < 32 ∨ 126 < z ∨ z = 40 ∨ z = 41 ∨ z = 92) : txB z = false := by
  unfold txB
  simp
  omega
theorem txB_yes (z : Int) (h0 : 32 ≤ z) (h1 : z ≤ 126) (h2 : z ≠ 40) (h3 : z ≠ 41) (h4 : z ≠ 92) : txB z = true := by
  unfold txB
  simp
  omega
set_option maxHeartbeats 4000000 in
theorem printTextC (A : Option Addr) (n c : Nat) (zs : List Int) (w : World) (hb : Byt w w.heap.size A n c zs) (hn : n ≤ 100000) :
    Calls Tryz.prog 21 #[.slice A n c] w fun r w' => ∃ A' c', r = .returned (.slice A' (txS zs).length c') ∧ Byt w' w'.heap.size A' (txS zs).length c' (txS zs) ∧ Below w.heap.size w w' := by
  have HB := Lib.hid hb
  have HL := Lib.hid hb.len
  have HDG := Lib.hid (fun W (hW : Byt W W.heap.size A n c zs) => refDigs A n c zs W hW (by omega))
  clear hb
  go_enter Tryz.func21, Tryz.ntmps21
  go_wp2_with fail
  go_loopw [3, 4] (fun s3 s4 wr => ∃ (k q : Nat), k ≤ n ∧ s4 = .int .i64 k ∧ s3 = .bool ((zs.take k).all txB) ∧ wr = w.drewN q) (fun _ s4 _ => n - (intOf s4).toNat)
  case atStart => exact ⟨0, 0, Nat.zero_le _, rfl, by simp, rfl⟩
  case round =>
    obtain ⟨k, q, hk, rfl, rfl, rfl⟩ := hrel
    by_cases hlt : k < n
    · have HAL := Lib.hid (all_snoc zs k (by rw [HL.out]; exact hlt))
      have hz := HB.out.getD k
      obtain ⟨b, o, rfl, _, hc⟩ := HB.out.cell (by omega)
      have ck := hc k hlt
      obtain ⟨z, hzz⟩ : ∃ z, zs.getD k 0 = z := ⟨_, rfl⟩
      rw [hzz] at ck hz HAL
      obtain ⟨z0, z1⟩ := hz
      clear hc hzz
      rcases hp : (zs.take k).all txB with _ | _
      · have HV : Hid ((zs.take (k + 1)).all txB = false) := Lib.hid (by rw [HAL.out, hp]; rfl)
        clear hp
        go_wp2_with fail
        go_roundw
        case rel => exact ⟨k + 1, _, hlt, by go_num, by rw [HV.out], rfl⟩
        case measure => simp [intOf]; omega
      have HP := Lib.hid hp
      clear hp
      by_cases h1 : z < 32
      · have HV : Hid ((zs.take (k + 1)).all txB = false) := Lib.hid (by rw [HAL.out, HP.out, txB_no z (by omega)]; rfl)
        go_wp2_with fail
        go_roundw
        case rel => exact ⟨k + 1, _, hlt, by go_num, by rw [HV.out], rfl⟩
        case measure => simp [intOf]; omega
      by_cases h2 : 126 < z
      · have HV : Hid ((zs.take (k + 1)).all txB = false) := Lib.hid (by rw [HAL.out, HP.out, txB_no z (by omega)]; rfl)
        go_wp2_with fail
        go_roundw
        case rel => exact ⟨k + 1, _, hlt, by go_num, by rw [HV.out], rfl⟩
        case measure => simp [intOf]; omega
      by_cases h3 : z = 40
      · have HV : Hid ((zs.take (k + 1)).all txB = false) := Lib.hid (by rw [HAL.out, HP.out, txB_no z (by omega)]; rfl)
        subst h3
        go_wp2_with fail
        go_roundw
        case rel => exact ⟨k + 1, _, hlt, by go_num, by rw [HV.out], rfl⟩
        case measure => simp [intOf]; omega
      by_cases h4 : z = 41
      · have HV : Hid ((zs.take (k + 1)).all txB = false) := Lib.hid (by rw [HAL.out, HP.out, txB_no z (by omega)]; rfl)
        subst h4
        go_wp2_with fail
        go_roundw
        case rel => exact ⟨k + 1, _, hlt, by go_num, by rw [HV.out], rfl⟩
        case measure => simp [intOf]; omega
      by_cases h5 : z = 92
      · have HV : Hid ((zs.take (k + 1)).all txB = false) := Lib.hid (by rw [HAL.out, HP.out, txB_no z (by omega)]; rfl)
        subst h5
        go_wp2_with fail
        go_roundw
        case rel => exact ⟨k + 1, _, hlt, by go_num, by rw [HV.out], rfl⟩
        case measure => simp [intOf]; omega
      · have HV : Hid ((zs.take (k + 1)).all txB = true) := Lib.hid (by rw [HAL.out, HP.out, txB_yes z (by omega) (by omega) h3 h4 h5]; rfl)
        have h1' : 32 ≤ z := by omega
        have h2' : z ≤ 126 := by omega
        go_wp2_with fail
        go_roundw
        case rel => exact ⟨k + 1, _, hlt, by go_num, by rw [HV.out]; simp [h3, h4, h5], rfl⟩
        case measure => simp [intOf]; omega
    · obtain rfl : k = n := by omega
      have HTK := Lib.hid (show zs.take k = zs from List.take_of_length_le (by rw [HL.out]; exact Nat.le_refl _))
      rw [HTK.out]
      clear HTK
      rcases hp : zs.all txB with _ | _
      · have HTX : Hid (txS zs = 60 :: (hxB zs ++ [62])) := Lib.hid (by unfold txS; rw [hp]; rfl)
        have hes : (⟨#[60]⟩ : ByteArray) ++ strOfNums (hxB zs) ++ ⟨#[62]⟩ = strOfNums (60 :: (hxB zs ++ [62])) := by
          rw [show (60 :: (hxB zs ++ [62]) : List Int) = [60] ++ hxB zs ++ [62] from rfl, strOfNums_app, strOfNums_app]
          rfl
        have hrr : ∀ z ∈ (60 :: (hxB zs ++ [62]) : List Int), 0 ≤ z ∧ z < 256 := fun z hm => by
          rcases List.mem_cons.1 hm with rfl | hm
          · omega
          · rcases List.mem_append.1 hm with hm | hm
            · have := hxB_rng zs HB.out.rng z hm
              omega
            · simp at hm; omega
        have HCV := Lib.hid (fun W => hes ▸ str_bytes6 _ hrr W)
        obtain ⟨N, hN⟩ : ∃ N, (60 :: (hxB zs ++ [62]) : List Int).length = N := ⟨_, rfl⟩
        rw [hN] at HCV
        have HN := Lib.hid hN
        clear hN
        have hsz : (strOfNums (hxB zs)).size = 2 * k := by rw [strOfNums_size, hxB_len, HL.out]
        obtain ⟨S, hS⟩ : ∃ S, strOfNums (hxB zs) = S := ⟨_, rfl⟩
        rw [hS] at HDG HCV hsz
        have hsz1 : (1 : Nat) + S.size ≤ 9223372036854775807 := by omega
        have hsz2 : ((⟨#[60]⟩ : ByteArray) ++ S).size = 1 + 2 * k := by rw [ByteArray.size_append, hsz]; rfl
        clear hp hes hrr hS
        go_wp2_with (go_at_call 59; refine (HDG.out _ (HB.out.drewN _)).mono ?_; (rintro r w3 ⟨rfl, q3, rfl⟩); obtain ⟨cc, ww, hcv, hby, hbe⟩ := HCV.out (w.drewN (q + q3)); have HBY := Lib.hid hby; have HBE := Lib.hid hbe; clear hby hbe)
        go_ret
        rw [HTX.out, HN.out]
        exact ⟨_, _, rfl, HBY.out, (below_drewN (Below.refl w.heap.size w) (q + q3)).trans HBE.out⟩
      · have HTX : Hid (txS zs = 40 :: (zs ++ [41])) := Lib.hid (by unfold txS; rw [hp]; rfl)
        have HLT : Hid ((txS zs).length = k + 2) := Lib.hid (by rw [HTX.out]; simp [HL.out])
        have hbw := below_drewN (Below.refl w.heap.size w) q
        have hbz := HB.out.drewN q
        obtain ⟨wr, hwr⟩ : ∃ wr, w.drewN q = wr := ⟨_, rfl⟩
        have hsw : wr.heap.size = w.heap.size := by rw [← hwr]; rfl
        rw [hwr] at hbz hbw
        rw [hwr]
        rw [← hsw] at hbz
        obtain ⟨A9, n9, c9, W9, hr9, A10, c10, W10, hr10, hm10, hb10⟩ := braced wr k c A zs hbz (by omega) 40 41 (by omega) (by omega)
        obtain ⟨A11, c11, e11, hby11⟩ := hm10.byt
        injection e11 with e1 _ e3
        subst e1 e3
        have HBY := Lib.hid hby11
        have HBE := Lib.hid (hbw.trans (hsw ▸ hb10))
        have HR9 := Lib.hid hr9
        have HR10 := Lib.hid hr10
        clear hp hwr hsw hbz hr9 hr10 hm10 hb10 hby11 hbw
        go_wp2_with (first
          | (at_builtin; refine Lib.wpList_append_run_sl _ rfl (.tmp 48) (.tmp 49) 23 rfl _ _ rfl rfl HR9.out ?_)
          | (at_builtin; refine Lib.wpList_append_run_sl _ rfl (.tmp 50) (.tmp 51) 23 rfl _ _ rfl rfl HR10.out ?_))
        go_ret
        rw [HLT.out, HTX.out]
        exact ⟨_, _, rfl, HBY.out, HBE.out⟩
end

section
open Go.RowKit
set_option linter.unusedVariables false
set_option maxRecDepth 100000
theorem nmS_app : ∀ (a b : List Int), nmS (a ++ b) = nmS a ++ nmS b
  | [], _ => rfl
  | c :: cs, b => by rw [List.cons_append, nmS, nmS, nmS_app cs b, List.append_assoc]
theorem nmS_len : ∀ a : List Int, (nmS a).length ≤ 3 * a.length
  | [] => Nat.le_refl _
  | c :: cs => by
    have := nmS_len cs
    rw [nmS, List.length_append, List.length_cons]
    split <;> simp <;> omega
theorem plB_yes (z : Int) (h0 : 33 ≤ z) (h1 : z ≤ 126) (h2 : regB z = true) (h3 : z ≠ 35) : plB z = true := by
  unfold plB
  rw [decide_eq_true h0, decide_eq_true h1, h2]
  simp [h3]
theorem strZ_get (S : ByteArray) (k : Nat) (hk : k < S.size) : (strZ S).getD k 0 = (S[k].toNat : Int) := by
  have hk2 : k < (strZ S).length := by rw [strZ_len]; exact hk
  rw [show (strZ S).getD k 0 = (strZ S)[k] by simp [List.getD, hk2]]
  simp [strZ]
  rfl
set_option maxHeartbeats 4000000 in
theorem printNameC (S : ByteArray) (w : World) (hn : S.size ≤ 1000) :
    Calls Tryz.prog 20 #[.string S] w fun r w' => ∃ v, r = .returned v ∧ Mine w' w.heap.size v (47 :: nmS (strZ S)).length (47 :: nmS (strZ S)) ∧ Below w.heap.size w w' := by
  have hz := strZ_rng S
  have hzl := strZ_len S
  have hix := fun (k : Nat) (hk : k < S.size) (W : World) => (show (Instr.index 9 (.string S) (.int .i64 (k : Int))).run Tryz.prog W = .ok (.int .u8 ((strZ S).getD k 0)) W from by
    rw [run_index_string W 9 S .i64 (k : Int) Tryz.underlying9, dif_pos ⟨by omega, by omega⟩, strZ_get S k hk]
    rfl)
  obtain ⟨zs, hzs⟩ : ∃ zs, strZ S = zs := ⟨_, rfl⟩
  rw [hzs] at hz hzl hix ⊢
  have HZ := Lib.hid hz
  have HZL := Lib.hid hzl
  have HIX := Lib.hid hix
  have hb1 := (Below.refl w.heap.size w).alloc (Nat.le_refl _) (.cells #[.int .u8 47] 5)
  have hm1 := mine_of (w.alloc (.cells #[.int .u8 47] 5)) w.heap.size w.heap.size 1 [47] (heap_alloc_new w _) (Nat.le_refl _) (by decide) rfl (by omega)
  have HM1 := Lib.hid hm1
  have HB1 := Lib.hid hb1
  clear hz hzl hix hzs hb1 hm1
  go_enter Tryz.func20, Tryz.ntmps20
  go_wp2_with fail
  go_loopw [3, 4, 5] (fun s3 s4 s5 wr => ∃ (k : Nat), k ≤ S.size ∧ s4 = .int .i64 k ∧ Hid (Mine wr w.heap.size s3 (47 :: nmS (zs.take k)).length (47 :: nmS (zs.take k))) ∧ Hid (Below w.heap.size w wr)) (fun _ s4 _ _ => S.size - (intOf s4).toNat)
  case atStart => exact ⟨0, Nat.zero_le _, rfl, HM1, HB1⟩
  case round =>
    obtain ⟨k, hk, rfl, HMR, HBE⟩ := hrel
    obtain ⟨A3, c3, hv3, _⟩ := HMR.out.byt
    subst hv3
    by_cases hlt : k < S.size
    · have hzz0 := HZ.out
      have hx := HIX.out k hlt
      have hts := take_snocZ zs k (by rw [HZL.out]; exact hlt)
      have hzb : 0 ≤ zs.getD k 0 ∧ zs.getD k 0 < 256 := by
        have hkl : k < zs.length := by rw [HZL.out]; exact hlt
        rw [getD_eq zs k hkl]
        exact hzz0 _ (List.getElem_mem hkl)
      obtain ⟨z, hzz⟩ : ∃ z, zs.getD k 0 = z := ⟨_, rfl⟩
      rw [hzz] at hx hts hzb
      obtain ⟨z0, z1⟩ := hzb
      have hlen := nmS_len (zs.take k)
      have hlen2 : (zs.take k).length ≤ 1000 := by rw [List.length_take]; omega
      obtain ⟨P, hP⟩ : ∃ P, 47 :: nmS (zs.take k) = P := ⟨_, rfl⟩
      have HLL : Hid (P.length ≤ 5000) := Lib.hid (by rw [← hP, List.length_cons]; omega)
      have HTP : Hid (47 :: nmS (zs.take (k + 1)) = P ++ nmS [z]) := Lib.hid (by rw [hts, nmS_app, ← hP]; rfl)
      rw [hP] at HMR ⊢
      have HAL := Lib.hid ((Below.refl wr.heap.size wr).alloc (Nat.le_refl _) (.cells #[.int .u8 z] 5))
      have HMK := Lib.hid (HMR.out.kept HAL.out)
      have HRG := Lib.hid (fun W => rregC z W)
      have wz : IntKind.i64.wrap z = z := IntWalk.i64_in _ (by omega)
      clear hts hzz hzz0 hlen hlen2 hP
      rcases hpb : plB z with _ | _
      · have HTS : Hid (47 :: nmS (zs.take (k + 1)) = P ++ [35, hxD (z / 16), hxD (z % 16)]) := Lib.hid (by rw [HTP.out, nmS, if_neg (by rw [hpb]; decide)]; rfl)
        have HDG := Lib.hid (refDigs _ 1 1 [z] (wr.alloc (.cells #[.int .u8 z] 5)) ((byt_lit0 wr z ⟨z0, z1⟩).more (by simp)) (by omega))
        have hes : (⟨#[35]⟩ : ByteArray) ++ strOfNums (hxB [z]) = strOfNums [35, hxD (z / 16), hxD (z % 16)] := by
          rw [show ([35, hxD (z / 16), hxD (z % 16)] : List Int) = [35] ++ hxB [z] from rfl, strOfNums_app]
          rfl
        have hrr : ∀ y ∈ ([35, hxD (z / 16), hxD (z % 16)] : List Int), 0 ≤ y ∧ y < 256 := fun y hm => by
          have d1 := hxD_ok (z / 16) (by omega) (by omega)
          have d2 := hxD_ok (z % 16) (by omega) (by omega)
          simp at hm
          rcases hm with rfl | rfl | rfl <;> omega
        have HCV := Lib.hid (fun W => show ∃ (a cc : Nat) (ww : World), (convert 9 23 (.string ((⟨#[35]⟩ : ByteArray) ++ strOfNums (hxB [z])))).run Tryz.prog W = .ok (.slice (some ⟨a, 0, none⟩) 3 cc) ww ∧ Byt ww ww.heap.size (some ⟨a, 0, none⟩) 3 cc [35, hxD (z / 16), hxD (z % 16)] ∧ Below W.heap.size W ww from by
          rw [hes]
          obtain ⟨cc, ww, hh⟩ := str_bytes6 _ hrr W
          exact ⟨_, cc, ww, hh⟩)
        have HNN : Hid (([35, hxD (z / 16), hxD (z % 16)] : List Int).length = 3) := Lib.hid rfl
        have hsz : (strOfNums (hxB [z])).size = 2 := by rw [strOfNums_size, hxB_len]; rfl
        obtain ⟨T, hT⟩ : ∃ T, strOfNums (hxB [z]) = T := ⟨_, rfl⟩
        rw [hT] at HDG HCV hsz
        have hsz1 : (1 : Nat) + T.size ≤ 9223372036854775807 := by omega
        clear hes hrr hT HMK
        by_cases h1 : z < 33
        · go_wp2_with (first
            | (go_at_call 58; refine (HRG.out _).mono ?_; (rintro r w3 ⟨rfl, rfl⟩))
            | (go_at_call 59; refine HDG.out.mono ?_; (rintro r w5 ⟨rfl, q5, rfl⟩); obtain ⟨a5, cc, ww, hcv, hby, hbe⟩ := HCV.out ((wr.alloc (.cells #[.int .u8 z] 5)).drewN q5); have HB5 := Lib.hid (HAL.out.trans ((below_drewN (Below.refl _ _) q5).trans hbe |>.mono HAL.out.size)); have HA2 := Lib.hid ((HMR.out.kept HB5.out).appendX hby 23 (by have := HLL.out; omega) (Nat.le_trans HBE.out.size HB5.out.size)); clear hby hbe)
            | (at_builtin; obtain ⟨v6, w6, hrun, hm6, hk6⟩ := HA2.out; obtain ⟨A6, c6, hv6, _⟩ := hm6.byt; subst hv6; refine Lib.wpList_append_run_sl _ rfl (.tmp 35) (.tmp 40) 23 rfl _ _ rfl rfl hrun ?_; clear hrun; have HM6 := Lib.hid hm6; have HK6 := Lib.hid hk6; clear hm6 hk6))
          go_roundw
          case rel =>
            refine ⟨k + 1, hlt, by go_num, Lib.hid ?_, Lib.hid (HBE.out.trans (HB5.out.mono HBE.out.size |>.trans (HK6.out.below (Nat.le_trans HBE.out.size HB5.out.size) (HMR.out.kept HB5.out).owned)))⟩
            rw [HTS.out, List.length_append, HNN.out]
            exact HM6.out
          case measure => simp [intOf]; omega
        by_cases h2 : 126 < z
        · go_wp2_with (first
            | (go_at_call 58; refine (HRG.out _).mono ?_; (rintro r w3 ⟨rfl, rfl⟩))
            | (go_at_call 59; refine HDG.out.mono ?_; (rintro r w5 ⟨rfl, q5, rfl⟩); obtain ⟨a5, cc, ww, hcv, hby, hbe⟩ := HCV.out ((wr.alloc (.cells #[.int .u8 z] 5)).drewN q5); have HB5 := Lib.hid (HAL.out.trans ((below_drewN (Below.refl _ _) q5).trans hbe |>.mono HAL.out.size)); have HA2 := Lib.hid ((HMR.out.kept HB5.out).appendX hby 23 (by have := HLL.out; omega) (Nat.le_trans HBE.out.size HB5.out.size)); clear hby hbe)
            | (at_builtin; obtain ⟨v6, w6, hrun, hm6, hk6⟩ := HA2.out; obtain ⟨A6, c6, hv6, _⟩ := hm6.byt; subst hv6; refine Lib.wpList_append_run_sl _ rfl (.tmp 35) (.tmp 40) 23 rfl _ _ rfl rfl hrun ?_; clear hrun; have HM6 := Lib.hid hm6; have HK6 := Lib.hid hk6; clear hm6 hk6))
          go_roundw
          case rel =>
            refine ⟨k + 1, hlt, by go_num, Lib.hid ?_, Lib.hid (HBE.out.trans (HB5.out.mono HBE.out.size |>.trans (HK6.out.below (Nat.le_trans HBE.out.size HB5.out.size) (HMR.out.kept HB5.out).owned)))⟩
            rw [HTS.out, List.length_append, HNN.out]
            exact HM6.out
          case measure => simp [intOf]; omega
        rcases hrg : regB z with _ | _
        · rw [hrg] at HRG
          clear hrg
          go_wp2_with (first
            | (go_at_call 58; refine (HRG.out _).mono ?_; (rintro r w3 ⟨rfl, rfl⟩))
            | (go_at_call 59; refine HDG.out.mono ?_; (rintro r w5 ⟨rfl, q5, rfl⟩); obtain ⟨a5, cc, ww, hcv, hby, hbe⟩ := HCV.out ((wr.alloc (.cells #[.int .u8 z] 5)).drewN q5); have HB5 := Lib.hid (HAL.out.trans ((below_drewN (Below.refl _ _) q5).trans hbe |>.mono HAL.out.size)); have HA2 := Lib.hid ((HMR.out.kept HB5.out).appendX hby 23 (by have := HLL.out; omega) (Nat.le_trans HBE.out.size HB5.out.size)); clear hby hbe)
            | (at_builtin; obtain ⟨v6, w6, hrun, hm6, hk6⟩ := HA2.out; obtain ⟨A6, c6, hv6, _⟩ := hm6.byt; subst hv6; refine Lib.wpList_append_run_sl _ rfl (.tmp 35) (.tmp 40) 23 rfl _ _ rfl rfl hrun ?_; clear hrun; have HM6 := Lib.hid hm6; have HK6 := Lib.hid hk6; clear hm6 hk6))
          go_roundw
          case rel =>
            refine ⟨k + 1, hlt, by go_num, Lib.hid ?_, Lib.hid (HBE.out.trans (HB5.out.mono HBE.out.size |>.trans (HK6.out.below (Nat.le_trans HBE.out.size HB5.out.size) (HMR.out.kept HB5.out).owned)))⟩
            rw [HTS.out, List.length_append, HNN.out]
            exact HM6.out
          case measure => simp [intOf]; omega
        rw [hrg] at HRG
        have h3 : z = 35 := by
          rcases Decidable.em (z = 35) with h | h
          · exact h
          · rw [plB_yes z (by omega) (by omega) hrg h] at hpb; cases hpb
        have h3b : (z != 35) = false := by rw [h3]; rfl
        clear hrg h3
        go_wp2_with (first
          | (go_at_call 58; refine (HRG.out _).mono ?_; (rintro r w3 ⟨rfl, rfl⟩))
          | (go_at_call 59; refine HDG.out.mono ?_; (rintro r w5 ⟨rfl, q5, rfl⟩); obtain ⟨a5, cc, ww, hcv, hby, hbe⟩ := HCV.out ((wr.alloc (.cells #[.int .u8 z] 5)).drewN q5); have HB5 := Lib.hid (HAL.out.trans ((below_drewN (Below.refl _ _) q5).trans hbe |>.mono HAL.out.size)); have HA2 := Lib.hid ((HMR.out.kept HB5.out).appendX hby 23 (by have := HLL.out; omega) (Nat.le_trans HBE.out.size HB5.out.size)); clear hby hbe)
          | (at_builtin; obtain ⟨v6, w6, hrun, hm6, hk6⟩ := HA2.out; obtain ⟨A6, c6, hv6, _⟩ := hm6.byt; subst hv6; refine Lib.wpList_append_run_sl _ rfl (.tmp 35) (.tmp 40) 23 rfl _ _ rfl rfl hrun ?_; clear hrun; have HM6 := Lib.hid hm6; have HK6 := Lib.hid hk6; clear hm6 hk6))
        go_roundw
        case rel =>
          refine ⟨k + 1, hlt, by go_num, Lib.hid ?_, Lib.hid (HBE.out.trans (HB5.out.mono HBE.out.size |>.trans (HK6.out.below (Nat.le_trans HBE.out.size HB5.out.size) (HMR.out.kept HB5.out).owned)))⟩
          rw [HTS.out, List.length_append, HNN.out]
          exact HM6.out
        case measure => simp [intOf]; omega
      · have HTS : Hid (47 :: nmS (zs.take (k + 1)) = P ++ [z]) := Lib.hid (by rw [HTP.out, nmS, if_pos hpb]; rfl)
        have hq := hpb
        unfold plB at hq
        simp at hq
        obtain ⟨⟨⟨h1, h2⟩, h3⟩, h4⟩ := hq
        rw [h3] at HRG
        have HA1 := Lib.hid (HMK.out.appendX (byt_lit0 wr z ⟨z0, z1⟩) 23 (by have := HLL.out; omega) (Nat.le_trans HBE.out.size HAL.out.size))
        clear hpb h3
        go_wp2_with (first
          | (go_at_call 58; refine (HRG.out _).mono ?_; (rintro r w3 ⟨rfl, rfl⟩))
          | (at_builtin; obtain ⟨v6, w6, hrun, hm6, hk6⟩ := HA1.out; obtain ⟨A6, c6, hv6, _⟩ := hm6.byt; subst hv6; refine Lib.wpList_append_run_sl _ rfl (.tmp 31) (.tmp 33) 23 rfl _ _ rfl rfl hrun ?_; clear hrun; have HM6 := Lib.hid hm6; have HK6 := Lib.hid hk6; clear hm6 hk6))
        go_roundw
        case rel =>
          refine ⟨k + 1, hlt, by go_num, Lib.hid ?_, Lib.hid (HBE.out.trans (HAL.out.mono HBE.out.size |>.trans (HK6.out.below (Nat.le_trans HBE.out.size HAL.out.size) HMK.out.owned)))⟩
          rw [HTS.out, List.length_append, List.length_singleton]
          exact HM6.out
        case measure => simp [intOf]; omega
    · obtain rfl : k = S.size := by omega
      have HTK : Hid (zs.take S.size = zs) := Lib.hid (List.take_of_length_le (by rw [HZL.out]; exact Nat.le_refl _))
      rw [HTK.out] at HMR ⊢
      go_wp2_with fail
      go_ret
      exact ⟨_, rfl, HMR.out, HBE.out⟩
end
end Go.Proofs.YtliieeagbpmcgaaGreatDoor
