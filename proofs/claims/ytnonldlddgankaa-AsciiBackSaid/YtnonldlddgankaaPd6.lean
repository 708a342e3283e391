/- Chapter 6, the program's own Unbase85. -/
import Derived.Test.YtnonldlddgankaaPc6
namespace Go.Proofs.Ytnonldlddgankaa
open Go.RowKit
set_option linter.unusedVariables false
set_option maxRecDepth 100000

theorem gdP_len (M : Nat) (g o : List Int) (x : Int) (hl : g.length ≤ 4) (h : (gdP M g o x).1 = 0) : (gdP M g o x).2.1.length ≤ 4 ∧ (gdP M g o x).2.2.length ≤ o.length + 4 := by
  unfold gdP at h ⊢
  split at h
  · cases h
  · rename_i h0
    split at h
    · rename_i h1
      split at h
      · cases h
      · rename_i h2
        rw [if_neg h0, if_pos h1, if_neg h2]
        simp
    · rename_i h1
      split at h
      · cases h
      · rename_i h2
        rw [if_neg h0, if_neg h1, if_neg h2]
        split at h
        · rename_i h3
          rw [if_pos h3]
          have e : grpR M (g ++ [x - 33]) o = ((grpR M (g ++ [x - 33]) o).1, 0) := Prod.ext rfl h
          exact ⟨by simp, (grp_len2 M _ o _ e).2⟩
        · rename_i h3
          rw [if_neg h3]
          simp; omega
theorem tl_sg (l : List Int) (p : Nat) (x : Int) (q : Nat) (h : sgA l p = (x, q)) : tlR l = if x < 0 then 2 else if x = 62 then 0 else 4 := by
  unfold tlR
  rw [(sgA_p l 0 p).1, h]
set_option maxHeartbeats 4000000 in
theorem ggread (base kp kc n c M : Nat) (A : Option Addr) (v : Value) (zs : List Int) (w : World) (h : RD w base kp kc 48 A n c 0 v [] M (.int .i64 0) (.int .i64 0)) (hM : M ≤ 9223372036854775807) (hb : Byt w base A n c zs) (hn : n ≤ 200000) (R : List Int × Int) (hR : u85R M zs [] [] = R) :
    Calls Try.prog 25 #[.pointer (some ⟨kp, 0, none⟩)] w fun r w' => PrP w w' base kp kc 48 A n c M R r := by
  have H := Lib.hid h
  have HL := Lib.hid hb.len
  have HRNG := Lib.hid hb.rng
  have HSG := Lib.hid (fun W q v out x3 x4 (hW : RD W base kp kc 48 A n c q v out M x3 x4) (hbe : Below base w W) => psign base kp kc n c q M _ A v x3 x4 out zs W hW (hb.below hbe (Nat.le_refl _)) (by omega))
  have HR := Lib.hid hR
  obtain ⟨Ro, Re⟩ := R
  clear h hb hR
  go_enter Try.func25, Try.ntmps25
  go_wp2_with (go_at_call 35; refine (HSG.out _ _ _ _ _ _ H.out (Below.refl _ _)).mono ?_; (rintro r w2 ⟨x2, q2, rfl, hx2, hr2, hb2⟩); have HR2 := Lib.hid hr2; have HB2 := Lib.hid hb2; have HX2 := Lib.hid hx2; clear hr2 hb2 hx2)
  go_loopg [3] (n + 2) (fun gk xv wr => ∃ (x : Int) (q : Nat) (g out : List Int), xv = .int .i64 x ∧ q ≤ n ∧ g.length ≤ 4 ∧ Hid (out.length + 4 * gk ≤ 4 * (n + 2)) ∧ Hid ((x = -1 ∧ (Ro, Re) = ([], (2 : Int)) ∧ 0 < gk) ∨ (0 ≤ x ∧ n + 1 < gk + q ∧ u85R M (x :: zs.drop q) g out = (Ro, Re) ∧ whB x = false)) ∧ Hid (GD wr base kp kc A n c q M g out) ∧ Hid (Below base w wr))
  case atStart =>
    refine ⟨x2, q2, [], [], rfl, HR2.out.pl, by simp, Lib.hid (by simp), Lib.hid ?_, Lib.hid ⟨⟨v, HR2.out⟩, fun d hd => by cases hd⟩, HB2⟩
    have hx2 := HX2.out
    have hsb := sgA_bd zs 0 HRNG.out
    rw [List.drop_zero] at hx2
    rw [hx2] at hsb
    dsimp only at hsb
    rcases hsb with ⟨h1, h2⟩ | ⟨h1, h2, h3, h4, h5⟩
    · refine .inl ⟨h1, ?_, by omega⟩
      rw [← HR.out, u85_no M zs 0 [] [] HRNG.out (by rw [hx2]; dsimp only; omega)]
    · refine .inr ⟨h1, by omega, ?_, h5⟩
      rw [← HR.out, u85_sg M zs 0 [] [] (by rw [hx2]; exact h1), hx2]
      rfl
  case round =>
    obtain ⟨x, q, g, out, rfl, hq, hg4, HO, HT, HG, HB⟩ := hrel
    have hol := HO.out
    by_cases h126 : x = 126
    · subst h126
      have hT : u85R M (126 :: zs.drop q) g out = (Ro, Re) := by
        rcases HT.out with ⟨h, _⟩ | ⟨_, _, h, _⟩
        · exact absurd h (by decide)
        · exact h
      rw [u85R, if_neg (by decide), if_pos rfl] at hT
      have HT9 := Lib.hid hT
      have HLA := Lib.hid (gglast base kp kc n c q M A g out wr HG.out hM (by omega) hg4)
      clear hT HT
      go_upto_region 8 with (go_at_call 38; refine HLA.out.mono ?_; (rintro r w4 ⟨e, rfl, hb4, he4, h4⟩); have HE4 := Lib.hid he4; have H4 := Lib.hid h4; have HB4 := Lib.hid (HB.out.trans hb4); clear h4 hb4 he4)
      by_cases he : e = 0
      · obtain ⟨v4, x3, x4, hr4⟩ := H4.out he
        have HR4 := Lib.hid hr4
        have HR9 : Hid ((if tlR (zs.drop q) = 0 then ((lstR M g out).1, 0) else ([], tlR (zs.drop q))) = (Ro, Re)) := Lib.hid (by
          have := HT9.out
          rw [← HE4.out, if_pos he] at this
          exact this)
        subst he
        clear H4 hr4 HE4 HT9
        go_upto_region 11 with (go_at_call 35; refine (HSG.out _ _ _ _ _ _ HR4.out HB4.out).mono ?_; (rintro r w5 ⟨x5, q5, rfl, hx5, hr5, hb5⟩); have HR5 := Lib.hid hr5; have HB5 := Lib.hid (HB4.out.trans hb5); have HX5 := Lib.hid hx5; clear hr5 hb5 hx5)
        have htl := tl_sg _ _ _ _ HX5.out
        have hsb := sgA_bd (zs.drop q) q (fun z hz => HRNG.out z (List.mem_of_mem_drop hz))
        rw [HX5.out] at hsb
        dsimp only at hsb
        have h9 := HR9.out
        have h3 : x5 = -1 ∨ x5 = 62 ∨ (0 ≤ x5 ∧ ¬ x5 = 62) := by
          rcases hsb with ⟨h1, _⟩ | ⟨h1, _⟩
          · exact .inl h1
          · by_cases h2 : x5 = 62
            · exact .inr (.inl h2)
            · exact .inr (.inr ⟨h1, h2⟩)
        rcases h3 with rfl | rfl | ⟨h3, h4⟩
        · rw [if_pos (by decide)] at htl
          rw [htl, if_neg (by decide)] at h9
          obtain ⟨rfl, rfl⟩ := Prod.mk.inj h9
          clear htl hsb h9
          go_wp2_with fail
          go_ret
          exact ⟨HB5.out, rfl, .inr ⟨by decide, rfl⟩⟩
        · rw [if_neg (by decide), if_pos rfl] at htl
          rw [htl, if_pos rfl] at h9
          obtain ⟨h9a, rfl⟩ := Prod.mk.inj h9
          have H9A := Lib.hid h9a
          clear htl hsb h9 h9a
          go_wp2_with fail
          go_ret
          exact ⟨HB5.out, rfl, .inl ⟨rfl, q5, v4, x3, x4, by dsimp only; rw [← H9A.out]; exact HR5.out⟩⟩
        · rw [if_neg (by omega), if_neg h4] at htl
          rw [htl, if_neg (by decide)] at h9
          obtain ⟨rfl, rfl⟩ := Prod.mk.inj h9
          have h5a : (x5 == -1) = false := beq_eq_false_iff_ne.2 (by omega)
          have h5b : (x5 == 62) = false := beq_eq_false_iff_ne.2 h4
          clear htl hsb h9 h4
          go_wp2_with fail
          go_ret
          exact ⟨HB5.out, rfl, .inr ⟨by decide, rfl⟩⟩
      · have HR9 : Hid (([] : List Int) = Ro ∧ e = Re) := Lib.hid (by
          have := HT9.out
          rw [← HE4.out, if_neg he] at this
          exact Prod.mk.inj this)
        have hez : (e == 0) = false := beq_eq_false_iff_ne.2 he
        have HEN := Lib.hid he
        obtain ⟨h1, h2⟩ := HR9.out
        subst h1 h2
        clear he H4 HE4 HT9
        go_wp2_with fail
        go_ret
        exact ⟨HB4.out, rfl, .inr ⟨HEN.out, rfl⟩⟩
    · have h126b : (x == 126) = false := beq_eq_false_iff_ne.2 h126
      have H126 := Lib.hid h126
      have HDI := Lib.hid (ggdigit base kp kc n c q M A g out x wr HG.out hM (by omega) hg4)
      clear h126
      go_upto_region 5 with (go_at_call 37; refine HDI.out.mono ?_; (rintro r w4 ⟨e, rfl, hb4, he4, h4⟩); have HE4 := Lib.hid he4; have H4 := Lib.hid h4; have HB4 := Lib.hid (HB.out.trans hb4); clear h4 hb4 he4)
      have hcase : (¬ e = 0 ∧ Ro = [] ∧ Re = e) ∨ (e = 0 ∧ n + 1 < gk + q ∧ ∃ g' out', g'.length ≤ 4 ∧ out'.length ≤ out.length + 4 ∧ GD w4 base kp kc A n c q M g' out' ∧ u85R M (zs.drop q) g' out' = (Ro, Re)) := by
        have h9 := H4.out
        have he4 := HE4.out
        rcases HT.out with ⟨hx, hR, _⟩ | ⟨hx, hgq, hR, hw⟩
        · subst hx
          obtain ⟨h1, h2⟩ := Prod.mk.inj hR
          have e2 : (gdP M g out (-1)).1 = 2 := by unfold gdP; rw [if_pos (by decide)]
          rw [e2] at he4
          exact .inl ⟨by omega, h1, by omega⟩
        · rw [u85_step M x _ g out hx hw H126.out] at hR
          by_cases he : e = 0
          · rw [← he4, if_pos he] at hR
            have hl := gdP_len M g out x hg4 (by rw [← he4]; exact he)
            exact .inr ⟨he, hgq, _, _, hl.1, hl.2, h9 he, hR⟩
          · rw [← he4, if_neg he] at hR
            obtain ⟨h1, h2⟩ := Prod.mk.inj hR
            exact .inl ⟨he, h1.symm, h2.symm⟩
      clear H4 HE4 HT
      rcases hcase with ⟨he, hR1, hR2⟩ | ⟨rfl, hgq, g', out', hg', ho', hgd, hR⟩
      · have hez : (e == 0) = false := beq_eq_false_iff_ne.2 he
        have HEN := Lib.hid he
        subst hR1 hR2
        clear he
        go_wp2_with fail
        go_ret
        exact ⟨HB4.out, rfl, .inr ⟨HEN.out, rfl⟩⟩
      · obtain ⟨⟨v', hr⟩, hdd⟩ := hgd
        have HRN := Lib.hid hr
        have HR9 := Lib.hid hR
        have HDD := Lib.hid hdd
        clear hr hR hdd
        go_wp2_with (go_at_call 35; refine (HSG.out _ _ _ _ _ _ HRN.out HB4.out).mono ?_; (rintro r w5 ⟨x5, q5, rfl, hx5, hr5, hb5⟩); have HR5 := Lib.hid hr5; have HB5 := Lib.hid (HB4.out.trans hb5); have HX5 := Lib.hid hx5; clear hr5 hb5 hx5)
        go_roundg (gk - 1)
        case rel =>
          have hsb := sgA_bd (zs.drop q) q (fun z hz => HRNG.out z (List.mem_of_mem_drop hz))
          have hx5 := HX5.out
          have hl := HL.out
          have hdl : (zs.drop q).length = n - q := by rw [List.length_drop]; omega
          rw [hx5, hdl] at hsb
          dsimp only at hsb
          refine ⟨x5, q5, g', out', rfl, HR5.out.pl, hg', Lib.hid (by omega), Lib.hid ?_, Lib.hid ⟨⟨v', HR5.out⟩, HDD.out⟩, HB5⟩
          rcases hsb with ⟨h1, h2⟩ | ⟨h1, h2, h3, h4, h5⟩
          · refine .inl ⟨h1, ?_, by omega⟩
            rw [← HR9.out, u85_no M _ q _ _ (fun z hz => HRNG.out z (List.mem_of_mem_drop hz)) (by rw [hx5]; dsimp only; omega)]
          · refine .inr ⟨h1, by omega, ?_, h5⟩
            rw [← HR9.out, u85_sg M (zs.drop q) q _ _ (by rw [hx5]; exact h1), hx5]
            dsimp only
            rw [List.drop_drop, show q + (q5 - q) = q5 by omega]
        case measure => omega

set_option maxHeartbeats 1000000 in
theorem pUnbase85 (A : Option Addr) (n c : Nat) (most : Int) (zs : List Int) (w : World) (hb : Byt w w.heap.size A n c zs) (hn : n ≤ 200000) (m0 : -9223372036854775808 ≤ most) (m1 : most ≤ 9223372036854775807) (R : List Int × Int) (hR : u85R (max most 0).toNat zs [] [] = R) :
    Calls Try.prog 10 #[.slice A n c, .int .i64 most] w (ReadPost w R) := by
  obtain ⟨M, hM⟩ : ∃ M : Nat, (max most 0).toNat = M := ⟨_, rfl⟩
  rw [hM] at hR
  have hM2 : max most 0 = (M : Int) := by omega
  have HO := Lib.hid (fun W => popen A n c most M hM2 W)
  have HRD := Lib.hid (fun W kp kc v (h : RD W w.heap.size kp kc 48 A n c 0 v [] M (.int .i64 0) (.int .i64 0)) (hbe : Below w.heap.size w W) => ggread w.heap.size kp kc n c M A v zs W h (by omega) (hb.below hbe (Nat.le_refl _)) hn R hR)
  obtain ⟨o, e⟩ := R
  clear hb hR hM hM2
  go_enter Try.func10, Try.ntmps10
  go_upto_region 3 with (first
    | (go_at_call 23; refine (HO.out _).mono ?_; (rintro r w2 ⟨kc, rfl, hk2, hc2, hb2⟩); have hnew := RD.new w w2 kc n c M 48 A (.int .i64 0) (.int .i64 0) hk2 hc2 hb2; have HN := Lib.hid hnew; clear hk2 hc2 hb2 hnew)
    | (go_at_call 25; refine (HRD.out _ _ _ _ HN.out.1 HN.out.2).mono ?_; (rintro r w4 ⟨hb4, rfl, h4⟩); dsimp only at h4; have HB4 := Lib.hid (HN.out.2.trans hb4); have H4 := Lib.hid h4; clear hb4 h4))
  rcases H4.out with ⟨rfl, q, v, x3, x4, hr⟩ | ⟨hne, rfl⟩
  · have k1 := hr.c1
    have HRR := Lib.hid hr
    clear hr H4
    go_wp2_with fail
    go_ret2
    exact ReadPost.of_row HB4.out HRR.out.row
  · have hez : (e == 0) = false := beq_eq_false_iff_ne.2 hne
    clear H4 hne
    go_wp2_with fail
    go_ret2
    exact ReadPost.of_bad e HB4.out
end Go.Proofs.Ytnonldlddgankaa
