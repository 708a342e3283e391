/- LexNames: any bytes but noughts, written as a name or a string, are read as they were. No condition on the input. -/
import Derived.Test.YtojbhckgegoldaaPn11
import Derived.Test.YtojbhckgegoldaaLaw11Do
namespace Go.Proofs.Ytojbhckgegoldaa
open Go.ChangeShapes Go.WideShapes Go.ChangeAt Go.RowKit Go.Deep
set_option linter.unusedVariables false
set_option maxRecDepth 100000

theorem strZ_nums (zs : List Int) (h : ∀ z ∈ zs, 0 ≤ z ∧ z < 256) : strZ (strOfNums zs) = zs := by
  unfold strZ
  rw [strOfNums_data, List.map_map]
  refine (List.map_congr_left fun z hz => ?_).trans (List.map_id _)
  have := h z hz
  simp
  omega
theorem nmS_ge : ∀ a : List Int, a.length ≤ (nmS a).length
  | [] => Nat.le_refl _
  | c :: cs => by
    have := nmS_ge cs
    rw [nmS, List.length_append, List.length_cons]
    split <;> simp <;> omega
theorem names_out (A A1 : Option Addr) (n c n1 c1 : Nat) (w : World) (h : 500 < n1 ∨ 127 < n) :
    Calls Try.prog 6 #[.slice A n c, .slice A1 n1 c1] w fun e w' => e = .returned (.bool true) ∧ Below w.heap.size w w' := by
  have HAW := Lib.hid (awake_any w)
  by_cases h1 : 500 < n1
  · have g1 : (n1 : Int) > 500 := by omega
    go_enter Try.func6, Try.ntmps6
    go_wp2_with (first
      | (go_at_call 10; refine HAW.out.mono ?_; (rintro e w1 ⟨rfl, hb1⟩)))
    go_ret
    exact ⟨rfl, hb1⟩
  · have g1 : ¬ (n1 : Int) > 500 := by omega
    have g2 : (n : Int) > 127 := by omega
    go_enter Try.func6, Try.ntmps6
    go_wp2_with (first
      | (go_at_call 10; refine HAW.out.mono ?_; (rintro e w1 ⟨rfl, hb1⟩)))
    go_ret
    exact ⟨rfl, hb1⟩
set_option maxHeartbeats 4000000 in
theorem names_main (A A1 : Option Addr) (n c n1 c1 : Nat) (zs ys : List Int) (w : World) (hz : Byt w w.heap.size A n c zs) (hy : Byt w w.heap.size A1 n1 c1 ys) (hn : n ≤ 127) (hn1 : n1 ≤ 500) :
    Calls Try.prog 6 #[.slice A n c, .slice A1 n1 c1] w fun e w' => e = .returned (.bool true) ∧ Below w.heap.size w w' := by
  have HAW := Lib.hid (awake_any w)
  have HZ := Lib.hid hz
  have HY := Lib.hid hy
  have g1 : ¬ (n1 : Int) > 500 := by omega
  have g2 : ¬ (n : Int) > 127 := by omega
  clear hz hy
  go_enter Try.func6, Try.ntmps6
  go_wp2_with (first
    | (go_at_call 10; refine HAW.out.mono ?_; (rintro e w1 ⟨rfl, hb1⟩); have HB1 := Lib.hid hb1; clear hb1))
  go_loopw [5] (fun s5 wr => ∃ (k q : Nat), k ≤ n ∧ s5 = .int .i64 k ∧ wr = w1.drewN q ∧ Hid (∀ j, j < k → zs.getD j 0 ≠ 0)) (fun s5 _ => n - (intOf s5).toNat)
  case atStart => exact ⟨0, 0, Nat.zero_le _, rfl, rfl, Lib.hid (fun j hj => absurd hj (Nat.not_lt_zero _))⟩
  case round =>
    obtain ⟨k, q, hk, rfl, rfl, HNZ⟩ := hrel
    by_cases hlt : k < n
    · have HZ1 := HZ.out.below HB1.out (Nat.le_refl _)
      obtain ⟨b, o, rfl, _, hc⟩ := HZ1.cell (by omega)
      have ck := hc k hlt
      obtain ⟨z, hzz⟩ : ∃ z, zs.getD k 0 = z := ⟨_, rfl⟩
      rw [hzz] at ck
      have HZK := Lib.hid hzz
      clear hc hzz HZ1
      by_cases h0 : z = 0
      · subst h0
        go_wp2_with fail
        go_ret
        exact ⟨rfl, below_drewN HB1.out q⟩
      · go_wp2_with fail
        go_roundw
        case rel => exact ⟨k + 1, _, hlt, by go_num, rfl, Lib.hid (fun j hj => by
          rcases Nat.lt_or_ge j k with h | h
          · exact HNZ.out j h
          · obtain rfl : j = k := by omega
            rw [HZK.out]; exact h0)⟩
        case measure => simp [intOf]; omega
    · obtain rfl : k = n := by omega
      have HR : Hid (∀ z ∈ zs, 0 < z ∧ z < 256) := Lib.hid (fun z hm => by
        obtain ⟨j, hj, rfl⟩ := List.getElem_of_mem hm
        have h1 := HNZ.out j (by rw [← HZ.out.len]; exact hj)
        rw [getD_eq zs j hj] at h1
        have h2 := HZ.out.rng _ hm
        omega)
      have hbw := below_drewN HB1.out q
      obtain ⟨W1, hW1⟩ : ∃ W1, w1.drewN q = W1 := ⟨_, rfl⟩
      rw [hW1] at hbw
      rw [hW1]
      have HBW := Lib.hid hbw
      have hss := strZ_nums zs HZ.out.rng
      have hsl : (strOfNums zs).size = k := by rw [strOfNums_size, HZ.out.len]
      obtain ⟨S, hS⟩ : ∃ S, strOfNums zs = S := ⟨_, rfl⟩
      have hcv := conv_str (HZ.out.below hbw (Nat.le_refl _)) S hS
      rw [hS] at hss hsl
      have HPN := Lib.hid (printNameC S W1 (by omega))
      rw [hss] at HPN
      have HPT := Lib.hid (fun W (hb : Below w.heap.size w W) => printTextC A1 n1 c1 ys W ((HY.out.below hb (Nat.le_refl _)).more hb.size) hn1)
      have hpl : (47 :: nmS zs).length ≤ 400 := by have := nmS_len zs; have := HZ.out.len; rw [List.length_cons]; omega
      have htl : (txS ys).length ≤ 1100 := by
        have := HY.out.len
        unfold txS
        split
        · simp; omega
        · have := hxB_len ys; simp; omega
      have hns := name_tok (47 :: nmS zs ++ txS ys) (txS ys) zs 0 (.inr (by
        unfold txS
        split
        · exact ⟨40, _, rfl, by decide⟩
        · exact ⟨60, _, rfl, by decide⟩)) rfl HR.out (by rw [HZ.out.len]; omega) (by have := HZ.out.len; have : zs.length ≤ (nmS zs).length := nmS_ge zs; rw [List.length_append, List.length_cons]; omega)
      have hts := text_tok (47 :: nmS zs ++ txS ys) ys (47 :: nmS zs).length (List.drop_left ..) HY.out.rng (by rw [HY.out.len]; omega)
      have hes := end_tok (47 :: nmS zs ++ txS ys) ((47 :: nmS zs).length + (txS ys).length) (by rw [List.drop_eq_nil_iff, List.length_append]; exact Nat.le_refl _)
      rw [show 0 + 1 + (nmS zs).length = (47 :: nmS zs).length by rw [List.length_cons]; omega] at hns
      obtain ⟨P, hP⟩ : ∃ P, 47 :: nmS zs = P := ⟨_, rfl⟩
      obtain ⟨T, hT⟩ : ∃ T, txS ys = T := ⟨_, rfl⟩
      rw [hP] at HPN hpl hns hts hes
      rw [hT] at HPT htl hns hts hes
      obtain ⟨p, hp⟩ : ∃ p, P.length = p := ⟨_, rfl⟩
      obtain ⟨m, hm⟩ : ∃ m, T.length = m := ⟨_, rfl⟩
      rw [hp] at HPN hpl hns hts hes
      rw [hm] at HPT htl hts hes
      obtain ⟨N, hN⟩ : ∃ N, p + m = N := ⟨_, rfl⟩
      have HN := Lib.hid hN
      have HNB : Hid (N ≤ 1500) := Lib.hid (by omega)
      rw [hN] at hts hes
      clear hN
      have HT1 := Lib.hid (fun W h g A c (x : LS w W h g A N c 0 (P ++ T)) => ls_tok (by have := HNB.out; omega) x hns.2 hns.1)
      have HT2 := Lib.hid (fun W h g A c (x : LS w W h g A N c p (P ++ T)) => ls_tok (by have := HNB.out; omega) x hts.2 hts.1)
      have HT3 := Lib.hid (fun W h g A c (x : LS w W h g A N c N (P ++ T)) => ls_tok (by have := HNB.out; omega) x hes.2 hes.1)
      have HNEW := Lib.hid (fun W A c (hb : Byt W W.heap.size A N c (P ++ T)) (hbl : Below w.heap.size w W) => ls_new w W A N c _ hb hbl)
      clear hbw hW1 hss hS hns hts hes hP hT hp hm HR HNZ HB1 HAW
      go_upto_region 11 with (first
        | (go_at_call 24; refine HPN.out.mono ?_; (rintro r w2 ⟨v2, rfl, hm2, hb2⟩); obtain ⟨A2, c2, hv2, _⟩ := hm2.byt; subst hv2; have HM2 := Lib.hid hm2; have HB2 := Lib.hid (HBW.out.trans (hb2.mono HBW.out.size)); have HS2 := Lib.hid hb2.size; clear hm2 hb2)
        | (go_at_call 25; refine (HPT.out _ HB2.out).mono ?_; (rintro r w3 ⟨A3, c3, rfl, hy3, hb3⟩); have HB3 := Lib.hid (HB2.out.trans (hb3.mono HB2.out.size)); have ha3 := (HM2.out.kept hb3).appendAny hy3 (by omega) (Nat.le_trans HS2.out hb3.size); rw [HN.out] at ha3; have HA3 := Lib.hid ha3; clear ha3; have HS3 := Lib.hid (Nat.le_trans HS2.out hb3.size); clear hy3 hb3)
        | (at_builtin; obtain ⟨v4, w4, hrun, hm4, _, hb4⟩ := HA3.out; obtain ⟨A4, c4, hv4, hy4⟩ := hm4.byt; subst hv4; refine Lib.wpList_append_run_sl _ rfl (.tmp 36) (.tmp 38) 25 rfl _ _ rfl rfl hrun ?_; clear hrun; have HY4 := Lib.hid hy4; have HB4 := Lib.hid (HB3.out.trans (hb4.mono HBW.out.size)); clear hm4 hy4 hb4)
        | (go_at_call 11; refine (HNEW.out _ _ _ HY4.out HB4.out).mono ?_; (rintro r w5 ⟨rfl, hl5, hs5, hb5⟩); have HL5 := Lib.hid hl5; clear hl5 hs5 hb5))
      obtain ⟨h, hh⟩ : ∃ h, w4.heap.size + 1 = h := ⟨_, rfl⟩
      obtain ⟨g, hg⟩ : ∃ g, w4.heap.size = g := ⟨_, rfl⟩
      rw [hh, hg] at HL5
      rw [hh]
      have HG5 := Lib.hid HL5.out.lx.cu.lt
      clear hh hg HA3 HPT HPN HM2 hcv HNEW HY4
      go_upto_region 12 with (first
        | (go_at_call 12; refine (HT1.out _ _ _ _ _ HL5.out).mono ?_; (rintro r w6 ⟨A6, m6, c6, rfl, hl6, ho6, hy6, hf6⟩); obtain rfl : k = m6 := HZ.out.len.symm.trans hy6.len; have HL6 := Lib.hid hl6; have HO6 := Lib.hid ho6; have HY6 := Lib.hid hy6; have HF6 := Lib.hid hf6; clear hl6 ho6 hy6 hf6))
      obtain ⟨w7, hw7⟩ : ∃ w7, w6.alloc (.cells #[.int .i64 4, .int .i64 0, .int .i64 0, .slice A6 k c6] 28) = w7 := ⟨_, rfl⟩
      have hx7 := Bx.new w6 28 (.int .i64 4) (.int .i64 0) (.int .i64 0) (.slice A6 k c6)
      have hb7 := (Below.refl w6.heap.size w6).alloc (Nat.le_refl _) (.cells #[.int .i64 4, .int .i64 0, .int .i64 0, .slice A6 k c6] 28)
      rw [hw7] at hx7 hb7
      rw [hw7]
      have HX7 := Lib.hid hx7
      have HL7 := Lib.hid (HL6.out.low hb7)
      have HY7 := Lib.hid (HY6.out.below hb7 (Nat.le_refl _))
      have HG7 : Hid (g < w6.heap.size ∧ w6.heap.size ≤ w7.heap.size) := Lib.hid ⟨Nat.lt_of_lt_of_le HG5.out HO6.out.size, hb7.size⟩
      clear hx7 hb7 hw7 HL6 HY6
      go_upto_region 13 with (first
        | (go_at_call 12; refine (HT2.out _ _ _ _ _ HL7.out).mono ?_; (rintro r w8 ⟨A8, m8, c8, rfl, hl8, ho8, hy8, hf8⟩); obtain rfl : n1 = m8 := HY.out.len.symm.trans hy8.len; have HL8 := Lib.hid hl8; have HO8 := Lib.hid ho8; have HY8 := Lib.hid hy8; have HF8 := Lib.hid hf8; clear hl8 ho8 hy8 hf8))
      obtain ⟨w9, hw9⟩ : ∃ w9, w8.alloc (.cells #[.int .i64 3, .int .i64 (p : Int), .int .i64 0, .slice A8 n1 c8] 28) = w9 := ⟨_, rfl⟩
      have hx9 := Bx.new w8 28 (.int .i64 3) (.int .i64 (p : Int)) (.int .i64 0) (.slice A8 n1 c8)
      have hb9 := (Below.refl w8.heap.size w8).alloc (Nat.le_refl _) (.cells #[.int .i64 3, .int .i64 (p : Int), .int .i64 0, .slice A8 n1 c8] 28)
      rw [hw9] at hx9 hb9
      rw [hw9]
      have HX9 := Lib.hid hx9
      have HL9 := Lib.hid (HL8.out.low hb9)
      have HY9 := Lib.hid (HY8.out.below hb9 (Nat.le_refl _))
      have HG9 : Hid (g < w8.heap.size ∧ w8.heap.size ≤ w9.heap.size ∧ w7.heap.size ≤ w8.heap.size) := Lib.hid ⟨Nat.lt_of_lt_of_le (Nat.lt_of_lt_of_le HG7.out.1 HG7.out.2) HO8.out.size, hb9.size, HO8.out.size⟩
      have HX79 := Lib.hid ((HX7.out.only HO8.out (by have := HG7.out; omega)).below hb9 (Nat.lt_of_lt_of_le HX7.out.lt HO8.out.size))
      have HY79 := Lib.hid ((HY7.out.onlyF HO8.out HF6.out HG5.out HG7.out.2).below hb9 (by have := HG7.out; have := HG9.out; omega))
      clear hx9 hb9 hw9 HL8 HY8
      go_upto_region 14 with (first
        | (go_at_call 12; refine (HT3.out _ _ _ _ _ HL9.out).mono ?_; (rintro r wa ⟨Aa, ma, ca, rfl, hla, hoa, hya, hfa⟩); have HLa := Lib.hid hla; have HOa := Lib.hid hoa; clear hla hoa hya hfa))
      obtain ⟨wb, hwb⟩ : ∃ wb, wa.alloc (.cells #[.int .i64 0, .int .i64 (N : Int), .int .i64 0, .slice Aa ma ca] 28) = wb := ⟨_, rfl⟩
      have hxb := Bx.new wa 28 (.int .i64 0) (.int .i64 (N : Int)) (.int .i64 0) (.slice Aa ma ca)
      have hbb := (Below.refl wa.heap.size wa).alloc (Nat.le_refl _) (.cells #[.int .i64 0, .int .i64 (N : Int), .int .i64 0, .slice Aa ma ca] 28)
      rw [hwb] at hxb hbb
      rw [hwb]
      have HLb := Lib.hid (HLa.out.low hbb)
      have hz9 : w9.heap.size ≤ wa.heap.size := HOa.out.size
      have h7 := HG7.out
      have h9 := HG9.out
      have b7 := (HX79.out.only HOa.out (by omega)).below hbb (Nat.lt_of_lt_of_le HX79.out.lt hz9)
      have b9 := (HX9.out.only HOa.out (by omega)).below hbb (Nat.lt_of_lt_of_le HX9.out.lt hz9)
      have y7 := (HY79.out.onlyF HOa.out HF6.out HG5.out (by omega)).below hbb (by omega)
      have y9 := (HY9.out.onlyF HOa.out HF8.out (by omega : g < w7.heap.size) (by omega)).below hbb (by omega)
      have t0 := b7.c0
      have t3 := b7.c3
      have u0 := b9.c0
      have u3 := b9.c3
      have x0 := Bx.c0 hxb
      have HS1 := Lib.hid (refSame_yes A6 A k c6 _ c _ zs wb y7 (HZ.out.below HLb.out.bl (Nat.le_refl _)) (by omega))
      have HS2b := Lib.hid (fun q => refSame_yes A8 A1 n1 c8 _ c1 _ ys (wb.drewN q) (y9.drewN q) ((HY.out.below HLb.out.bl (Nat.le_refl _)).drewN q) (by omega))
      clear b7 b9 y7 y9 hxb hbb hwb hz9 h7 h9 HX7 HX9 HX79 HY79 HY9 HY7 HLa HOa HO8 HO6 HL9 HL7 HT1 HT2 HT3 HF6 HF8 HG5 HG7 HG9
      go_wp2_with (first
        | (go_at_call 26; (with_reducible refine HS1.out.mono ?_); (rintro r wc ⟨rfl, qc, rfl⟩))
        | (go_at_call 26; (with_reducible refine (HS2b.out _).mono ?_); (rintro r wd ⟨rfl, qd, rfl⟩)))
      go_ret
      exact ⟨rfl, below_drewN HLb.out.bl _⟩
theorem names_walk (A : Option Addr) (n c : Nat) (zs : List Int) (A1 : Option Addr) (n1 c1 : Nat) (ys : List Int) (w : World) (hz : Byt w w.heap.size A n c zs) (_hn : n ≤ 9223372036854775807) (hy : Byt w w.heap.size A1 n1 c1 ys) (_hn1 : n1 ≤ 9223372036854775807) :
    Calls Try.prog 6 #[.slice A n c, .slice A1 n1 c1] w fun e w' => e = .returned (.bool true) ∧ Below w.heap.size w w' := by
  by_cases h : 500 < n1 ∨ 127 < n
  · exact names_out A A1 n c n1 c1 w h
  · exact names_main A A1 n c n1 c1 zs ys w hz hy (by omega) (by omega)
set_option maxRecDepth 100000 in
theorem names_lifted (os : Os) (started : os.Started) (H : Type) (enc : TypeId × Value → H) :
    ReturnsInHanded {} Try.checked os 6 .any (Rows.lexNamesSpec.pre6 enc Try.prog Try.f6 Rows.lexNamesRow.domain false) (Rows.lexNamesSpec.post enc Try.prog Try.f6 false true false false) := by
  refine returnsInHanded_of_change (C := Try.checked) own started (by kernel_rfl) Try.func6
    (ChangeSpec.witness6 (enc := enc) (C := Try.checked) false ⟨#[], #[.slice none 0 0, .slice none 0 0], []⟩ 8 (by kernel_rfl) (by kernel_rfl) (by kernel_rfl) (by kernel_rfl)) ?_
  intro W base args ds gs before hval0 hW hcnd _
  have hval : ∀ (j : Nat) t v, Try.f6.params[j]? = some t → args[j]? = some v → Value.okWide Try.prog W .any base t v := hval0
  have hW' := hW
  obtain ⟨p, q, hA0, hV, rfl, hfz, hnd⟩ := hW
  have hA : DataW.TrodAll enc Try.prog W 0 (fun _ => true) true Try.f6.params.toList args.toList ds p := hA0
  rw [Try.params6] at hA hval
  obtain ⟨v0, vs0, d0, ds0, p0, q0, hargs, rfl, rfl, h0, r0⟩ := trodAll_cons hA
  obtain ⟨v1, vs1, d1, ds1, p1, q1, rfl, rfl, rfl, h1, r1⟩ := trodAll_cons r0
  obtain ⟨rfl, rfl, rfl⟩ := trodAll_nil r1
  obtain rfl : args = #[v0, v1] := by cases args; simp_all
  obtain ⟨rfl, rfl⟩ := trodVars_none hV
  obtain ⟨a0, len0, cap0, rfl⟩ := okWide_slice Try.underlying25 (hval 0 25 v0 rfl rfl)
  obtain ⟨zs0, hz0, hcm0⟩ := open_bytes h0 (fun _ => rfl)
  have lt0 : ∀ x ∈ p0, x.block < W.heap.size := by obtain ⟨m, hm⟩ := h0; exact DataW.trod_lt m _ _ _ hm
  obtain ⟨a1, len1, cap1, rfl⟩ := okWide_slice Try.underlying25 (hval 1 25 v1 rfl rfl)
  obtain ⟨zs1, hz1, hcm1⟩ := open_bytes h1 (fun _ => rfl)
  have lt1 : ∀ x ∈ p1, x.block < W.heap.size := by obtain ⟨m, hm⟩ := h1; exact DataW.trod_lt m _ _ _ hm
  have hmx : maxLen = 9223372036854775807 := by decide
  clear hA0 hval0
  refine (names_walk a0 len0 cap0 zs0 a1 len1 cap1 zs1 W hz0 (by have := hz0.cap; omega) hz1 (by have := hz1.cap; omega)).mono fun e W' ⟨he, bel⟩ => ?_
  subst he
  exact ⟨_, rfl, _, _, _, [], _, [], hW', trodAll_mk1 (shut_bool Try.underlying4 _), (trodAll_cons_mk (Below.trod laidOut (by kernel_rfl) (of_decide_eq_true (by kernel_rfl)) h0 bel lt0) (trodAll_cons_mk (Below.trod laidOut (by kernel_rfl) (of_decide_eq_true (by kernel_rfl)) h1 bel lt1) trodAll_mk0)), rfl, bel.frame _, fun h => by cases h⟩

/-- LexNames: it answers true. -/
theorem names_holds : Rows.LexNamesSaid :=
  OpenClaim.holds_of_wide 6 Try.f6 rfl rfl rfl rfl rfl rfl rfl ⟨rfl, rfl, rfl, rfl, rfl⟩ rfl rfl rfl rfl rfl (by kernel_rfl) Try.func6 (by kernel_rfl)
    (of_decide_eq_true (by kernel_rfl)) (by unfold Func.isWrapper; first | (rw [if_pos (by decide +kernel)]; kernel_rfl) | (rw [if_neg (by decide +kernel)]; exact ⟨rfl, rfl⟩))
    (fun os started H enc _ => names_lifted os started H enc)
#print axioms names_holds

end Go.Proofs.Ytojbhckgegoldaa
