/- LexTexts: a string with whatever escapes, pairs of brackets, ends of line: its bytes; without its end it is none. No condition on the input. -/
import Derived.Test.YtojbhckgegoldaaLaw11Do
import Derived.Test.YtojbhckgegoldaaTl11
namespace Go.Proofs.Ytojbhckgegoldaa
open Go.ChangeShapes Go.WideShapes Go.ChangeAt Go.RowKit Go.Deep
set_option linter.unusedVariables false
set_option maxRecDepth 100000

theorem texts_out (A : Option Addr) (n c : Nat) (A2 : Option Addr) (n2 c2 : Nat) (w : World) (hn : n ≤ 9223372036854775807) (hn2 : n2 ≤ 9223372036854775807) (h : 60 < n ∨ (n ≤ 60 ∧ 60 < n2)) :
    Calls Try.prog 7 #[.slice A n c, .slice A2 n2 c2] w fun e w' => e = .returned (.bool true) ∧ Below w.heap.size w w' := by
  have HAW := Lib.hid (awake_any w)
  rcases h with h | ⟨h, h2⟩
  · have g1 : (n : Int) > 60 := by omega
    go_enter Try.func7, Try.ntmps7
    go_wp2_with (first
      | (go_at_call 10; refine HAW.out.mono ?_; (rintro e w1 ⟨rfl, hb1⟩)))
    go_ret
    exact ⟨rfl, hb1⟩
  · have g1 : ¬ (n : Int) > 60 := by omega
    have g1' : decide ((n : Int) > 60) = false := decide_eq_false g1
    have g1'' : decide (60 < n) = false := decide_eq_false (by omega)
    have g2 : (n2 : Int) > 60 := by omega
    go_enter Try.func7, Try.ntmps7
    go_wp2_with (first
      | (go_at_call 10; refine HAW.out.mono ?_; (rintro e w1 ⟨rfl, hb1⟩)))
    go_ret
    exact ⟨rfl, hb1⟩
set_option maxHeartbeats 8000000 in
theorem texts_main (A : Option Addr) (n c : Nat) (zs : List Int) (A2 : Option Addr) (n2 c2 : Nat) (zs2 : List Int) (w : World) (hz : Byt w w.heap.size A n c zs) (hz2 : Byt w w.heap.size A2 n2 c2 zs2) (hn : n ≤ 60) (hn2 : n2 ≤ 60) :
    Calls Try.prog 7 #[.slice A n c, .slice A2 n2 c2] w fun e w' => e = .returned (.bool true) ∧ Below w.heap.size w w' := by
  have HAW := Lib.hid (awake_any w)
  have HZ := Lib.hid hz
  have HZ2 := Lib.hid hz2
  have HLN := Lib.hid hz.len
  have g1 : ¬ (n : Int) > 60 := by omega
  have g1' : decide ((n : Int) > 60) = false := decide_eq_false g1
  have g1'' : decide (60 < n) = false := decide_eq_false (by omega)
  have g2 : ¬ (n2 : Int) > 60 := by omega
  have g2' : decide ((n2 : Int) > 60) = false := decide_eq_false g2
  have g2'' : decide (60 < n2) = false := decide_eq_false (by omega)
  clear hz hz2
  go_enter Try.func7, Try.ntmps7
  go_wp2_with (first
    | (go_at_call 10; refine HAW.out.mono ?_; (rintro e w1 ⟨rfl, hb1⟩); have HB1 := Lib.hid hb1; clear hb1))
  clear g1 g1' g1'' g2 g2' g2''
  go_loopw [5, 6, 7, 8, 9] (fun vb vw i s8 s9 wr => ∃ (k : Nat) (l : List Nat), k ≤ n ∧ i = .int .i64 k ∧ Hid (l.length = k) ∧ Hid (Mine wr w1.heap.size vb (catS l).length (catS l)) ∧ Hid (Mine wr w1.heap.size vw (catW l).length (catW l)) ∧ Hid (∀ b, vb.ownBlock = some b → vw.ownBlock ≠ some b) ∧ Hid (Below w1.heap.size w1 wr)) (fun _ _ i _ _ _ => n - (intOf i).toNat)
  case atStart => exact ⟨0, [], Nat.zero_le _, rfl, Lib.hid rfl, Lib.hid (Mine.nil _ _), Lib.hid (Mine.nil _ _), Lib.hid (fun b hb => by cases hb), Lib.hid (Below.refl _ _)⟩
  case round =>
    obtain ⟨k, l, hk, rfl, HLL, HMB, HMW, HAP, HBR⟩ := hrel
    have HCL := Lib.hid (cat_len l)
    by_cases hlt : k < n
    · have hzr := ((HZ.out.below HB1.out (Nat.le_refl _)).more HB1.out.size).below HBR.out (Nat.le_refl _)
      obtain ⟨b, o, hA, _, hc⟩ := hzr.cell (by omega)
      have hck := hc k hlt
      have hrg := hzr.getD k
      obtain ⟨x, hx⟩ : ∃ x, zs.getD k 0 = x := ⟨_, rfl⟩
      rw [hx] at hck hrg
      obtain ⟨x0, x1⟩ := hrg
      subst hA
      have HPI := Lib.hid (fun W => piece_any x W x0 (by omega))
      have HAB := Lib.hid (fun (s : ByteArray) (hs : s.size ≤ 8) => HMB.out.appendSX s (by have := HCL.out; have := HLL.out; omega) HBR.out.size)
      clear hzr hc hx x0 x1
      go_wp2_with (first
        | (go_at_call 27; refine (HPI.out _).mono ?_; (rintro e w2 ⟨s, t, rfl, rfl, hs, ht⟩); have HS := Lib.hid hs; have HT := Lib.hid ht; have HSS : Hid (s.size ≤ 8 ∧ t.size ≤ 6) := Lib.hid (by have h1 := pc_len (x % 14).toNat; rw [← strZ_len, ← strZ_len, hs, ht]; exact h1); clear hs ht)
        | (at_builtin; obtain ⟨v6, w6, hrun, hm6, hk6⟩ := HAB.out s HSS.out.1; refine Lib.wpList_append_run _ rfl _ _ _ _ rfl _ _ rfl rfl _ _ hrun ?_; clear hrun; have HM6 := Lib.hid hm6; have HK6 := Lib.hid hk6; have HW6 := Lib.hid (HMW.out.keepX hk6 (fun b hb e => HAP.out b e hb)); have HB6 := Lib.hid (hk6.below HBR.out.size HMB.out.owned); have HAW2 := Lib.hid (HW6.out.appendSX t (by have := HCL.out; have := HLL.out; have := HSS.out; omega) (Nat.le_trans HBR.out.size HB6.out.size)); clear hm6 hk6)
        | (at_builtin; obtain ⟨v7, w7, hrun, hm7, hk7⟩ := HAW2.out; refine Lib.wpList_append_run _ rfl _ _ _ _ rfl _ _ rfl rfl _ _ hrun ?_; clear hrun; have HM7 := Lib.hid hm7; have HK7 := Lib.hid hk7; clear hm7 hk7))
      go_roundw
      case rel =>
        have hap6 : ∀ b, v6.ownBlock = some b → u6.ownBlock ≠ some b := fun b hb e => by
          rcases HK6.out.own b hb with h1 | h1
          · exact HAP.out b h1 e
          · have := HMW.out.lt b e; omega
        have hm6 := HM6.out.keepX HK7.out hap6
        refine ⟨k + 1, l ++ [(x % 14).toNat], by omega, by go_num, Lib.hid (by rw [List.length_append, HLL.out]; rfl), Lib.hid ?_, Lib.hid ?_, Lib.hid ?_, Lib.hid ?_⟩
        · have e : catS (l ++ [(x % 14).toNat]) = catS l ++ strZ s := by rw [catS_app, HS.out]; simp [catS]
          rw [e, List.length_append, strZ_len]
          exact hm6
        · have e : catW (l ++ [(x % 14).toNat]) = catW l ++ strZ t := by rw [catW_app, HT.out]; simp [catW]
          rw [e, List.length_append, strZ_len]
          exact HM7.out
        · intro b hb e
          rcases HK7.out.own b e with h1 | h1
          · exact hap6 b hb h1
          · have := HM6.out.lt b hb; omega
        · exact HBR.out.trans (HB6.out.trans (HK7.out.below (Nat.le_trans HBR.out.size HB6.out.size) HW6.out.owned))
      case measure => simp [intOf]; omega
    · obtain rfl : k = n := by omega
      obtain ⟨A5, c5, rfl, hby5⟩ := HMB.out.byt
      obtain ⟨A6, c6, rfl, hby6⟩ := HMW.out.byt
      have hl60 : l.length ≤ 60 := by have := HLL.out; omega
      have hcl := HCL.out
      obtain ⟨A9, n9, c9, W9, hr9, A10, c10, W10, hr10, hm10, hb10⟩ := braced wr (catS l).length c5 A5 (catS l) hby5 (by omega) 40 41 (by omega) (by omega)
      have hb1r : Below w.heap.size w wr := HB1.out.trans (HBR.out.mono HB1.out.size)
      have hbw10 : Below w.heap.size w W10 := hb1r.trans (hb10.mono hb1r.size)
      obtain ⟨v11, W11, hr11, hm11, hmo, hb11⟩ := hm10.appendAny ((HZ2.out.below hbw10 (Nat.le_refl _))) (by omega) hb10.size
      obtain ⟨A11, c11, rfl, hby11⟩ := hm11.byt
      obtain ⟨Ao, co, hvo, hbyo⟩ := hmo.byt
      injection hvo with e1 _ e3
      subst e1 e3
      have hbw11 : Below w.heap.size w W11 := hbw10.trans (hb11.mono hb1r.size)
      have hbr11 : Below wr.heap.size wr W11 := hb10.trans hb11
      have hbyw := (hby6.below hbr11 (Nat.le_refl _)).more hbr11.size
      have hzz : (40 :: (catS l ++ [41])) ++ zs2 = 40 :: (catS l ++ 41 :: zs2) := by simp
      rw [hzz] at hby11
      have htw := text_whole l zs2 hl60
      have htc := text_cut l hl60
      have hfirst := hbyo.first (m := (catS l).length + 1) (by omega)
      have htk : (40 :: (catS l ++ [41])).take ((catS l).length + 1) = 40 :: catS l := by simp
      rw [htk] at hfirst
      obtain ⟨N, hN⟩ : ∃ N, (catS l).length + 2 = N := ⟨_, rfl⟩
      obtain ⟨M, hM⟩ : ∃ M, (catS l).length + 1 = M := ⟨_, rfl⟩
      obtain ⟨LB, hLB⟩ : ∃ LB, (catS l).length = LB := ⟨_, rfl⟩
      obtain ⟨LW, hLW⟩ : ∃ LW, (catW l).length = LW := ⟨_, rfl⟩
      rw [hN] at hr10 hr11 hby11 htw hbyo
      rw [hM] at hfirst
      rw [hLB] at hr9 hby5
      rw [hLW] at hbyw hby6
      rw [hLB, hLW]
      have hNM : N = M + 1 := by omega
      have hN5 : N ≤ 1000 := by omega
      have hW5 : LW ≤ 1000 := by omega
      have wN : IntKind.i64.wrap ((N : Int) - 1) = (M : Int) := by rw [show (N : Int) - 1 = (M : Int) by omega]; exact IntWalk.i64_in _ (by omega)
      have HR9 := Lib.hid hr9
      have HR10 := Lib.hid hr10
      have HR11 := Lib.hid hr11
      have HNEW := Lib.hid (ls_new w W11 A11 (N + n2) c11 _ hby11 hbw11)
      have HT1 := Lib.hid (fun W h g A c (x : LS w W h g A (N + n2) c 0 (40 :: (catS l ++ 41 :: zs2))) => ls_tok (by omega) x htw.2 htw.1)
      have HNEW2 := Lib.hid (fun W (hb : Byt W W.heap.size (cutA A10 c10 0) M c10 (40 :: catS l)) (hbl : Below w.heap.size w W) => ls_new w W (cutA A10 c10 0) M c10 _ hb hbl)
      have HT2 := Lib.hid (fun W h g A c (x : LS w W h g A M c 0 (40 :: catS l)) => ls_tok (by omega) x htc.2 htc.1)
      have HBYW := Lib.hid hbyw
      have HFI := Lib.hid hfirst
      have HWL := Lib.hid hW5
      have hNc : N ≤ c10 := hbyo.cap
      have hsl := fun W => run_cut0 (P := Try.prog) W 25 5 Try.underlying25 (fun w => by kernel_rfl) A10 N c10 M (by omega)
      have HLWW : Hid ((catW l).length = LW) := Lib.hid hLW
      clear hNM hr9 hr10 hr11 hby11 hbw11 hbyw hfirst hby5 hby6 hm10 hb10 hm11 hmo hb11 hbyo htk hzz htw htc hbr11 hbw10 hb1r hcl hl60 hN hM hLB hW5 HMB HMW HAP HCL HLL hlt hk hLW hNc
      go_upto_region 15 with (first
        | (at_builtin; refine Lib.wpList_append_run_sl _ rfl (.tmp 46) (.tmp 47) 25 rfl _ _ rfl rfl HR9.out ?_)
        | (at_builtin; refine Lib.wpList_append_run_sl _ rfl (.tmp 48) (.tmp 49) 25 rfl _ _ rfl rfl HR10.out ?_)
        | (at_builtin; refine Lib.wpList_append_run_sl _ rfl (.tmp 51) (.tmp 52) 25 rfl _ _ rfl rfl HR11.out ?_)
        | (go_at_call 11; refine HNEW.out.mono ?_; (rintro r w12 ⟨rfl, hl12, hs12, hb12⟩); have HL12 := Lib.hid hl12; have HS12 := Lib.hid hs12; have HBYW := Lib.hid (HBYW.out.below hb12 (Nat.le_refl _)); have HFI := Lib.hid (HFI.out.below hb12 (Nat.le_refl _)); clear hl12 hs12 hb12)
        | (go_at_call 12; refine (HT1.out _ _ _ _ _ HL12.out).mono ?_; (rintro r w13 ⟨A1, m1, c1, rfl, hl13, ho13, hy13, hf13⟩); obtain rfl : (catW l).length = m1 := hy13.len; have HL13 := Lib.hid hl13; have HBYW := Lib.hid ((HBYW.out.only ho13 (Nat.le_refl _) (Nat.le_of_lt HL12.out.lx.cu.lt)).more (Nat.le_of_lt HL13.out.lx.cu.lt)); have HFI := Lib.hid ((HFI.out.only ho13 (Nat.le_refl _) (Nat.le_of_lt HL12.out.lx.cu.lt)).more (Nat.le_of_lt HL13.out.lx.cu.lt)); have HY13 := Lib.hid hy13; clear hl13 ho13 hy13 hf13))
      rw [HLWW.out] at HY13 ⊢
      have hbx := Bx.new w13 28 (.int .i64 3) (.int .i64 (0 : Nat)) (.int .i64 0) (.slice A1 LW c1)
      have hb14 := (Below.refl w13.heap.size w13).alloc (Nat.le_refl _) (.cells #[.int .i64 3, .int .i64 (0 : Nat), .int .i64 0, .slice A1 LW c1] 28)
      obtain ⟨w14, hw14⟩ : ∃ w14, w13.alloc (.cells #[.int .i64 3, .int .i64 (0 : Nat), .int .i64 0, .slice A1 LW c1] 28) = w14 := ⟨_, rfl⟩
      rw [hw14] at hbx hb14
      rw [show w13.alloc (.cells #[.int .i64 3, .int .i64 0, .int .i64 0, .slice A1 LW c1] 28) = w14 from hw14]
      have hl14 := HL13.out.low hb14
      have t0 := hbx.c0
      have t1 := hbx.c1
      have t2 := hbx.c2
      have t3 := hbx.c3
      have k0 := hl14.lx.k0
      have HSM := Lib.hid (refSame_yes A1 A6 LW c1 _ c6 _ (catW l) w14 (HY13.out.below hb14 (Nat.le_refl _)) (HBYW.out.below hb14 (Nat.le_refl _)) (by have := HWL.out; omega))
      have HPO := Lib.hid (fun j => pos_any W11.heap.size (N + n2) c11 N A11 (w14.drewN j) (hl14.lx.cu.drewN j))
      have HFI2 := Lib.hid (HFI.out.below hb14 (Nat.le_refl _))
      have HL14 := Lib.hid hl14
      have HS14 := Lib.hid hb14.size
      clear hbx hb14 hw14 hl14
      go_wp2_with (first
        | (go_at_call 26; refine HSM.out.mono ?_; (rintro r w15 ⟨rfl, q15, rfl⟩); dsimp only)
        | (go_at_call 16; refine (HPO.out q15).mono ?_; (rintro r w16 ⟨rfl, rfl⟩); dsimp only)
        | (go_at_call 11; refine (HNEW2.out (w14.drewN q15) ((HFI2.out.drewN q15).more HS14.out) (below_drewN HL14.out.bl q15)).mono ?_; (rintro r w17 ⟨rfl, hl17, hs17, hb17⟩); have HL17 := Lib.hid hl17; clear hl17 hs17 hb17)
        | (go_at_call 12; refine (HT2.out _ _ _ _ _ HL17.out).mono ?_; (rintro r w18 ⟨A18, m18, c18, rfl, hl18, ho18, hy18, hf18⟩); have HL18 := Lib.hid hl18; clear hl18 ho18 hy18 hf18))
      go_ret
      exact ⟨rfl, (HL18.out.alloc _).bl⟩

theorem texts_walk (A : Option Addr) (n c : Nat) (zs : List Int) (A2 : Option Addr) (n2 c2 : Nat) (zs2 : List Int) (w : World) (hz : Byt w w.heap.size A n c zs) (hn : n ≤ 9223372036854775807) (hz2 : Byt w w.heap.size A2 n2 c2 zs2) (hn2 : n2 ≤ 9223372036854775807) :
    Calls Try.prog 7 #[.slice A n c, .slice A2 n2 c2] w fun e w' => e = .returned (.bool true) ∧ Below w.heap.size w w' := by
  by_cases h : 60 < n ∨ (n ≤ 60 ∧ 60 < n2)
  · exact texts_out A n c A2 n2 c2 w hn hn2 h
  · exact texts_main A n c zs A2 n2 c2 zs2 w hz hz2 (by omega) (by omega)
set_option maxRecDepth 100000 in
theorem texts_lifted (os : Os) (started : os.Started) (H : Type) (enc : TypeId × Value → H) :
    ReturnsInHanded {} Try.checked os 7 .any (Rows.lexTextsSpec.pre6 enc Try.prog Try.f7 Rows.lexTextsRow.domain false) (Rows.lexTextsSpec.post enc Try.prog Try.f7 false true false false) := by
  refine returnsInHanded_of_change (C := Try.checked) own started (by kernel_rfl) Try.func7
    (ChangeSpec.witness6 (enc := enc) (C := Try.checked) false ⟨#[], #[.slice none 0 0, .slice none 0 0], []⟩ 8 (by kernel_rfl) (by kernel_rfl) (by kernel_rfl) (by kernel_rfl)) ?_
  intro W base args ds gs before hval0 hW hcnd _
  have hval : ∀ (j : Nat) t v, Try.f7.params[j]? = some t → args[j]? = some v → Value.okWide Try.prog W .any base t v := hval0
  have hW' := hW
  obtain ⟨p, q, hA0, hV, rfl, hfz, hnd⟩ := hW
  have hA : DataW.TrodAll enc Try.prog W 0 (fun _ => true) true Try.f7.params.toList args.toList ds p := hA0
  rw [Try.params7] at hA hval
  obtain ⟨v0, vs0, d0, ds0, p0, q0, hargs, rfl, rfl, h0, r0⟩ := trodAll_cons hA
  obtain ⟨v1, vs1, d1, ds1, p1, q1, rfl, rfl, rfl, h1, r1⟩ := trodAll_cons r0
  obtain ⟨rfl, rfl, rfl⟩ := trodAll_nil r1
  obtain rfl : args = #[v0, v1] := by cases args; simp_all
  obtain ⟨rfl, rfl⟩ := trodVars_none hV
  obtain ⟨a0, len0, cap0, rfl⟩ := okWide_slice Try.underlying25 (hval 0 25 v0 rfl rfl)
  obtain ⟨zs0, hz0, hcm0⟩ := open_bytes h0 (fun _ => rfl)
  have lt0 : ∀ x ∈ p0, x.block < W.heap.size := by obtain ⟨m, hm⟩ := h0; exact DataW.trod_lt m _ _ _ hm
  obtain ⟨a1, len1, cap1, rfl⟩ := okWide_slice Try.underlying25 (hval 1 25 v1 rfl rfl)
  obtain ⟨zs1, hz1, hcm1⟩ := open_bytes h1 (fun _ => rfl)
  have lt1 : ∀ x ∈ p1, x.block < W.heap.size := by obtain ⟨m, hm⟩ := h1; exact DataW.trod_lt m _ _ _ hm
  have hmx : maxLen = 9223372036854775807 := by decide
  clear hA0 hval0
  refine (texts_walk a0 len0 cap0 zs0 a1 len1 cap1 zs1 W hz0 (by have := hz0.cap; omega) hz1 (by have := hz1.cap; omega)).mono fun e W' ⟨he, bel⟩ => ?_
  subst he
  exact ⟨_, rfl, _, _, _, [], _, [], hW', trodAll_mk1 (shut_bool Try.underlying4 _), (trodAll_cons_mk (Below.trod laidOut (by kernel_rfl) (of_decide_eq_true (by kernel_rfl)) h0 bel lt0) (trodAll_cons_mk (Below.trod laidOut (by kernel_rfl) (of_decide_eq_true (by kernel_rfl)) h1 bel lt1) trodAll_mk0)), rfl, bel.frame _, fun h => by cases h⟩

/-- LexTexts: it answers true. -/
theorem texts_holds : Rows.LexTextsSaid :=
  OpenClaim.holds_of_wide 7 Try.f7 rfl rfl rfl rfl rfl rfl rfl ⟨rfl, rfl, rfl, rfl, rfl⟩ rfl rfl rfl rfl rfl (by kernel_rfl) Try.func7 (by kernel_rfl)
    (of_decide_eq_true (by kernel_rfl)) (by unfold Func.isWrapper; first | (rw [if_pos (by decide +kernel)]; kernel_rfl) | (rw [if_neg (by decide +kernel)]; exact ⟨rfl, rfl⟩))
    (fun os started H enc _ => texts_lifted os started H enc)
#print axioms texts_holds

end Go.Proofs.Ytojbhckgegoldaa
