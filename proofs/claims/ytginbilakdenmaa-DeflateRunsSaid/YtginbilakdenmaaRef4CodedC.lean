/- The document's own flow (chapter 4): coded, its contract. -/
import Derived.Test.YtginbilakdenmaaRef4Coded
import Derived.Deep.DeepCutAuto
import Derived.Deep.CutBlock
namespace Go.Proofs.Ytginbilakdenmaa
open Go.RowKit
set_option linter.unusedVariables false
set_option maxRecDepth 100000

theorem below_keeps {ts : Nat → Prop} {w w' : World} {B : Nat} (h : Below B w w') (hb : ∀ i, ts i → i < B) : Keeps ts w w' := ⟨h.os, h.tape, h.output, h.size, fun i hi => h.block i (hb i hi)⟩

theorem Mine.le {w : World} {base p : Nat} {v : Value} {zs : List Int} (h : Mine w base v p zs) : p ≤ 9223372036854775807 := by
  rcases h.own.2 with ⟨_, h0⟩ | ⟨b, cap, cur, _, _, _, h1, h2, _⟩
  · omega
  · simp only [maxLen] at h2; omega
theorem putO_len (most : Nat) (out : List Int) (e z : Int) : out.length ≤ (putO most out e z).length := by
  unfold putO
  split
  · simp
  · exact Nat.le_refl _
set_option maxRecDepth 100000 in
set_option maxHeartbeats 2000000 in
theorem codedC (k g n c p B nl cl nd cd most : Nat) (A Al Ad : Option Addr) (v : Value) (out zs l d : List Int) (ts : Nat → Prop) (w : World) (h : FS w k g ts A n c p 0 v out most) (hb : Byt w B A n c zs) (hB : ∀ i, i < B → ts i) (hn : n ≤ 100000000) (hm : most ≤ 100000000) (hp : p ≤ 8 * n)
    (hl : ∀ W, Keeps ts w W → Nums W W.heap.size Al nl cl l) (hd : ∀ W, Keeps ts w W → Nums W W.heap.size Ad nd cd d) (hnl : nl ≤ 1000) (hnd : nd ≤ 1000) (p' : Nat) (e' : Int) (out' : List Int) (hs : codedR zs l (codesS l) d (codesS d) most (8 * n + 1) p 0 out = (p', e', out')) :
    Calls Try.prog 46 #[.pointer (some ⟨k, 0, none⟩), .slice Al nl cl, .slice Ad nd cd] w fun r w' => r = .returned (.tuple #[]) ∧ ∃ v', FS w' k g ts A n c p' e' v' out' most ∧ Keeps ts w w' := by
  have hBg : B ≤ g := Nat.le_of_not_lt fun hlt => h.tg (hB g hlt)
  have HLEN := Lib.hid hb.len
  have HS := Lib.hid hs
  have HP := Lib.hid hp
  have H := Lib.hid h
  have HLL : Hid (l.length = nl) := Lib.hid (hl w (Keeps.refl _ _)).len
  have HDL : Hid (d.length = nd) := Lib.hid (hd w (Keeps.refl _ _)).len
  have HC1 := Lib.hid (codesC Al nl cl w.heap.size l w (hl w (Keeps.refl _ _)) (Nat.le_refl _) hnl)
  have HC2 := Lib.hid (fun W (hW : Below w.heap.size w W) => codesC Ad nd cd W.heap.size d W (hd W (below_keeps hW h.tb)) (Nat.le_refl _) hnd)
  have HB0 := Lib.hid hb
  have HBB := Lib.hid hB
  have HL := Lib.hid hl
  have HD := Lib.hid hd
  clear h hb hs hp hl hd hB
  go_enter Try.func46, Try.ntmps46
  go_wp2_with (first
    | (go_at_call 36; with_reducible refine HC1.out.mono ?_; rintro r w1 ⟨rfl, hr1, hb1⟩; have HR1 := Lib.hid hr1; have HB1 := Lib.hid hb1; clear hr1 hb1)
    | (go_at_call 36; refine (HC2.out _ HB1.out).mono ?_; rintro r w2 ⟨rfl, hr2, hb2⟩; have HR2 := Lib.hid hr2; have HB2 := Lib.hid hb2; clear hr2 hb2))
  obtain ⟨b1, hb1e⟩ : ∃ b, w.heap.size = b := ⟨_, rfl⟩
  obtain ⟨b2, hb2e⟩ : ∃ b, w1.heap.size = b := ⟨_, rfl⟩
  have HE1 := Lib.hid hb1e
  have HE2 := Lib.hid hb2e
  have HB12 : Hid (Below w.heap.size w w2) := Lib.hid (HB1.out.trans (HB2.out.mono HB1.out.size))
  have HLT : Hid (b1 < b2 ∧ b2 < w2.heap.size) := Lib.hid ⟨by rw [← hb1e, ← hb2e]; exact HR1.out.lt, by rw [← hb2e]; exact HR2.out.lt⟩
  have HI1 : Hid (IRow w2 b1 (codesS l)) := Lib.hid (by rw [← hb1e]; exact HR1.out.below HB2.out HR1.out.lt)
  have HI2 : Hid (IRow w2 b2 (codesS d)) := Lib.hid (by rw [← hb2e]; exact HR2.out)
  rw [hb1e, hb2e]
  clear hb1e hb2e
  obtain ⟨us, hus⟩ : ∃ us : Nat → Prop, us = fun i => ts i ∨ i = b1 ∨ i = b2 := ⟨_, rfl⟩
  have HF2 : Hid (FS w2 k g us A n c p 0 v out most) := Lib.hid (H.out.and HB12.out us (by
    subst hus
    intro i hi
    have h1 := HLT.out
    have h2 := HE1.out
    rcases hi with hi | rfl | rfl
    · exact .inl hi
    · exact .inr ⟨by omega, by omega⟩
    · exact .inr ⟨by omega, by omega⟩))
  have HTU : Hid (∀ i, ts i → us i) := Lib.hid (by subst hus; exact fun i hi => .inl hi)
  have HU1 : Hid (us b1) := Lib.hid (by subst hus; exact .inr (.inl rfl))
  have HU2 : Hid (us b2) := Lib.hid (by subst hus; exact .inr (.inr rfl))
  clear hus
  have HKT : Hid (∀ W, Keeps us w2 W → Keeps ts w W) := Lib.hid fun W hW => (below_keeps HB12.out H.out.tb).trans (hW.sub HTU.out)
  have HSY1 := Lib.hid (fun W v out q e s q' e' (hW : Keeps us w2 W) (hF : FS W k g us A n c q e v out most) (hq : q ≤ 8 * n) (hs : symS zs l (codesS l) q e = (s, q', e')) =>
    symC g n c q B nl cl nl nl e A Al (some ⟨b1, 0, none⟩) zs l (codesS l) W hF.bs (HB0.out.keeps (HKT.out W hW) HBB.out) hBg hn hq
      (fun X hX => HL.out X (HKT.out X (hW.trans (hX.keeps hF.tg hF.tb)))) (fun X hX => IRow.nums ((((hW.trans (hX.keeps hF.tg hF.tb)).block b1 HU1.out)).trans HI1.out) (by unfold codesS; rw [codesN_len, HLL.out])) hnl (Nat.le_refl _) s q' e' hs)
  have HSY2 := Lib.hid (fun W v out q e s q' e' (hW : Keeps us w2 W) (hF : FS W k g us A n c q e v out most) (hq : q ≤ 8 * n) (hs : symS zs d (codesS d) q e = (s, q', e')) =>
    symC g n c q B nd cd nd nd e A Ad (some ⟨b2, 0, none⟩) zs d (codesS d) W hF.bs (HB0.out.keeps (HKT.out W hW) HBB.out) hBg hn hq
      (fun X hX => HD.out X (HKT.out X (hW.trans (hX.keeps hF.tg hF.tb)))) (fun X hX => IRow.nums ((((hW.trans (hX.keeps hF.tg hF.tb)).block b2 HU2.out)).trans HI2.out) (by unfold codesS; rw [codesN_len, HDL.out])) hnd (Nat.le_refl _) s q' e' hs)
  have HLN := Lib.hid (fun W v out q e s x q' e' (hW : Keeps us w2 W) (hF : FS W k g us A n c q e v out most) (hq : q ≤ 8 * n) (h1 : 257 ≤ s) (h2 : s ≤ 285) hs => lenC k g n c q B most s e A v out zs us W hF (HB0.out.keeps (HKT.out W hW) HBB.out) hBg hn hq h1 h2 x q' e' hs)
  have HDN := Lib.hid (fun W v out q e s x q' e' (hW : Keeps us w2 W) (hF : FS W k g us A n c q e v out most) (hq : q ≤ 8 * n) (h2 : s ≤ 29) hs => disC k g n c q B most s e A v out zs us W hF (HB0.out.keeps (HKT.out W hW) HBB.out) hBg hn hq h2 x q' e' hs)
  have HK0 : Hid (Keeps us w2 w2) := Lib.hid (Keeps.refl _ _)
  go_loopw [8] (fun s wr => ∃ (F q : Nat) (e : Int) (v : Value) (out : List Int), Hid (q ≤ 8 * n ∧ (e = 0 → 8 * n - q < F)) ∧ Hid (codedR zs l (codesS l) d (codesS d) most F q e out = (p', e', out')) ∧ Hid (FS wr k g us A n c q e v out most) ∧ Hid (Keeps us w2 wr)) (fun _ wr => 8 * n - pOf g wr)
  case atStart => exact ⟨8 * n + 1, p, 0, v, out, Lib.hid ⟨HP.out, fun _ => by omega⟩, HS, HF2, HK0⟩
  case round =>
    obtain ⟨F, q, e, v, out, HQ, HR, HF, HK⟩ := hrel
    have k0 := HF.out.c0
    have k2 := HF.out.bs.c2
    by_cases he : e = 0
    · subst he
      obtain ⟨J, hJ⟩ : ∃ J, F = J + 1 := ⟨F - 1, by have := HQ.out.2 rfl; omega⟩
      subst hJ
      have HJ : Hid (8 * n - q < J + 1) := Lib.hid (HQ.out.2 rfl)
      obtain ⟨s, p1, e1, hs1⟩ : ∃ s p1 e1, symR zs l (codesS l) 15 1 0 q = (s, p1, e1) := ⟨_, _, _, rfl⟩
      have hR := HR.out
      rw [codedR, if_neg (by omega)] at hR
      dsimp only at hR
      rw [hs1] at hR
      dsimp only at hR
      have hp1 := symR_p zs l (codesS l) 15 1 0 q (by rw [HLEN.out]; exact HQ.out.1)
      have hv1 := (symR_v zs l (codesS l) 15 1 0 q).1
      rw [hs1] at hp1 hv1
      rw [HLEN.out] at hp1
      dsimp only at hp1 hv1
      have HCA := Lib.hid (HSY1.out _ v out q 0 s p1 e1 HK.out HF.out HQ.out.1 (by unfold symS; rw [if_pos rfl]; exact hs1))
      have HP1 := Lib.hid hp1
      by_cases he1 : e1 = 0
      · subst he1
        have HGT := Lib.hid (symR_good zs l (codesS l) 15 1 0 q s p1 hs1)
        obtain ⟨S, rfl⟩ : ∃ S : Nat, s = S := ⟨s.toNat, by omega⟩
        clear hs1 hp1 hv1
        by_cases h256 : S = 256
        · subst h256
          have HE : Hid ((p1, 0, out) = (p', e', out')) := Lib.hid (by rw [if_pos (.inr rfl)] at hR; exact hR)
          clear hR
          go_wp2_with (go_at_call 56; with_reducible refine HCA.out.mono ?_; rintro r w3 ⟨rfl, hb3, ho3⟩; have HF3 := Lib.hid (HF.out.read ho3 hb3); have HK3 := Lib.hid (HK.out.trans (ho3.keeps HF.out.tg HF.out.tb)); have k03 := HF3.out.c0; have k23 := HF3.out.bs.c2; clear hb3 ho3)
          (try simp only [Exit.inBlock, Exit.then])
          refine ⟨rfl, _, results_none rfl _ _ _, ?_⟩
          obtain ⟨rfl, h3⟩ := Prod.mk.inj HE.out
          obtain ⟨rfl, rfl⟩ := Prod.mk.inj h3
          exact ⟨rfl, _, HF3.out.sub HTU.out, HKT.out _ HK3.out⟩
        · rw [if_neg (by omega)] at hR
          have hne : ((S : Int) == 256) = false := beq_eq_false_iff_ne.2 (by omega)
          by_cases hlt : S < 256
          · have HR2 : Hid (codedR zs l (codesS l) d (codesS d) most J p1 (putE most out 0) (putO most out 0 S) = (p', e', out')) := Lib.hid (by rw [if_pos (by omega)] at hR; exact hR)
            clear hR h256
            go_wp2_with (first
              | (go_at_call 56; with_reducible refine HCA.out.mono ?_; rintro r w3 ⟨rfl, hb3, ho3⟩; have HF3 := Lib.hid (HF.out.read ho3 hb3); have HK3 := Lib.hid (HK.out.trans (ho3.keeps HF.out.tg HF.out.tb)); have k03 := HF3.out.c0; have k23 := HF3.out.bs.c2; clear hb3 ho3)
              | (go_at_call 55; refine (putC k g n c p1 most 0 S A v out us _ HF3.out (by omega) hm).mono ?_; rintro r w4 ⟨rfl, v4, hf4, hk4⟩; have HF4 := Lib.hid hf4; have HK4 := Lib.hid (HK3.out.trans hk4); clear hf4 hk4))
            go_roundw
            case rel => exact ⟨J, p1, _, v4, _, Lib.hid ⟨HP1.out.1, fun _ => by have := HJ.out; have := HGT.out; have := HP1.out.1; omega⟩, HR2, HF4, HK4⟩
            case measure => rw [HF.out.pOf, HF4.out.pOf]; have := HGT.out; have := HP1.out.1; omega
          · rw [if_neg (by omega)] at hR
            by_cases h285 : 285 < S
            · have HE : Hid ((p1, 4, out) = (p', e', out')) := Lib.hid (by rw [if_pos (by omega)] at hR; exact hR)
              clear hR h256
              go_wp2_with (first
                | (go_at_call 56; with_reducible refine HCA.out.mono ?_; rintro r w3 ⟨rfl, hb3, ho3⟩; have HF3 := Lib.hid (HF.out.read ho3 hb3); have HK3 := Lib.hid (HK.out.trans (ho3.keeps HF.out.tg HF.out.tb)); have k03 := HF3.out.c0; have k23 := HF3.out.bs.c2; clear hb3 ho3)
                | (go_at_call 48; refine (fail_first g n c p1 4 A _ HF3.out.bs).mono ?_; rintro r w4 ⟨rfl, hb4, ho4⟩; have HF4 := Lib.hid (HF3.out.read ho4 hb4); have HK4 := Lib.hid (HK3.out.trans (ho4.keeps HF3.out.tg HF3.out.tb)); clear hb4 ho4))
              (try simp only [Exit.inBlock, Exit.then])
              refine ⟨rfl, _, results_none rfl _ _ _, ?_⟩
              obtain ⟨rfl, h3⟩ := Prod.mk.inj HE.out
              obtain ⟨rfl, rfl⟩ := Prod.mk.inj h3
              exact ⟨rfl, _, HF4.out.sub HTU.out, HKT.out _ HK4.out⟩
            · rw [if_neg (by omega)] at hR
              have hgt : ¬ (285 < (S : Int)) := by omega
              rw [Int.toNat_natCast] at hR
              obtain ⟨x, p2, e2, hl1⟩ : ∃ x p2 e2, lenS zs p1 0 S = (x, p2, e2) := ⟨_, _, _, rfl⟩
              have hp2 := lenS_p zs p1 0 S (by rw [HLEN.out]; exact HP1.out.1)
              have hx := lenS_v zs p1 0 S (by omega) (by omega)
              rw [hl1] at hp2 hx hR
              rw [HLEN.out] at hp2
              dsimp only at hp2 hx hR
              obtain ⟨c3, p3, e3, hc3⟩ : ∃ c3 p3 e3, symS zs d (codesS d) p2 e2 = (c3, p3, e3) := ⟨_, _, _, rfl⟩
              have hp3 := symS_p zs d (codesS d) p2 e2 (by rw [HLEN.out]; exact hp2.1)
              have hcv := symS_v zs d (codesS d) p2 e2
              rw [hc3] at hp3 hcv hR
              rw [HLEN.out] at hp3
              dsimp only at hp3 hcv hR
              have HP2 := Lib.hid hp2
              have HP3 := Lib.hid hp3
              have HL1 := Lib.hid hl1
              have HC3 := Lib.hid hc3
              clear hl1 hc3 hp2 hp3
              obtain ⟨X, rfl⟩ : ∃ X : Nat, x = X := ⟨x.toNat, by omega⟩
              rw [Int.toNat_natCast] at hR
              by_cases he3 : e3 = 0
              · subst he3
                by_cases h29 : 29 < c3
                · have HE : Hid ((p3, 4, out) = (p', e', out')) := Lib.hid (by rw [if_neg (by omega), if_pos h29] at hR; exact hR)
                  clear hR
                  go_wp2_with (first
                    | (go_at_call 56; with_reducible refine HCA.out.mono ?_; rintro r w3 ⟨rfl, hb3, ho3⟩; have HF3 := Lib.hid (HF.out.read ho3 hb3); have HK3 := Lib.hid (HK.out.trans (ho3.keeps HF.out.tg HF.out.tb)); have k03 := HF3.out.c0; have k23 := HF3.out.bs.c2; clear hb3 ho3)
                    | (go_at_call 57; refine (HLN.out _ _ out p1 0 S X p2 e2 HK3.out HF3.out HP1.out.1 (by omega) (by omega) HL1.out).mono ?_; rintro r w4 ⟨rfl, hf4, ho4⟩; have HF4 := Lib.hid hf4; have HK4 := Lib.hid (HK3.out.trans (ho4.keeps HF3.out.tg HF3.out.tb)); have k04 := HF4.out.c0; clear hf4 ho4)
                    | (go_at_call 56; refine (HSY2.out _ _ out p2 e2 c3 p3 _ HK4.out HF4.out HP2.out.1 HC3.out).mono ?_; rintro r w5 ⟨rfl, hb5, ho5⟩; have HF5 := Lib.hid (HF4.out.read ho5 hb5); have HK5 := Lib.hid (HK4.out.trans (ho5.keeps HF4.out.tg HF4.out.tb)); have k05 := HF5.out.c0; have k25 := HF5.out.bs.c2; clear hb5 ho5)
                    | (go_at_call 48; refine (fail_first g n c p3 4 A _ HF5.out.bs).mono ?_; rintro r w6 ⟨rfl, hb6, ho6⟩; have HF6 := Lib.hid (HF5.out.read ho6 hb6); have HK6 := Lib.hid (HK5.out.trans (ho6.keeps HF5.out.tg HF5.out.tb)); have k06 := HF6.out.c0; have k26 := HF6.out.bs.c2; clear hb6 ho6))
                  (try simp only [Exit.inBlock, Exit.then])
                  refine ⟨rfl, _, results_none rfl _ _ _, ?_⟩
                  obtain ⟨rfl, h3⟩ := Prod.mk.inj HE.out
                  obtain ⟨rfl, rfl⟩ := Prod.mk.inj h3
                  exact ⟨rfl, _, HF6.out.sub HTU.out, HKT.out _ HK6.out⟩
                · obtain ⟨C, rfl⟩ : ∃ C : Nat, c3 = C := ⟨c3.toNat, by omega⟩
                  rw [if_neg (by omega), if_neg h29, Int.toNat_natCast] at hR
                  obtain ⟨y, p4, e4, hd1⟩ : ∃ y p4 e4, disS zs p3 0 C = (y, p4, e4) := ⟨_, _, _, rfl⟩
                  have hp4 := disS_p zs p3 0 C (by rw [HLEN.out]; exact HP3.out.1)
                  have hy := disS_v zs p3 0 C (by omega)
                  rw [hd1] at hp4 hy hR
                  rw [HLEN.out] at hp4
                  dsimp only at hp4 hy hR
                  obtain ⟨Y, rfl⟩ : ∃ Y : Nat, y = Y := ⟨y.toNat, by omega⟩
                  rw [Int.toNat_natCast] at hR
                  have HP4 := Lib.hid hp4
                  have HD1 := Lib.hid hd1
                  clear hp4 hd1
                  obtain ⟨A1, c1, hv, _⟩ := HF.out.row.byt
                  subst hv
                  go_upto_region 14 with (first
                    | (go_at_call 56; with_reducible refine HCA.out.mono ?_; rintro r w3 ⟨rfl, hb3, ho3⟩; have HF3 := Lib.hid (HF.out.read ho3 hb3); have HK3 := Lib.hid (HK.out.trans (ho3.keeps HF.out.tg HF.out.tb)); have k03 := HF3.out.c0; have k23 := HF3.out.bs.c2; clear hb3 ho3)
                    | (go_at_call 57; refine (HLN.out _ _ out p1 0 S X p2 e2 HK3.out HF3.out HP1.out.1 (by omega) (by omega) HL1.out).mono ?_; rintro r w4 ⟨rfl, hf4, ho4⟩; have HF4 := Lib.hid hf4; have HK4 := Lib.hid (HK3.out.trans (ho4.keeps HF3.out.tg HF3.out.tb)); have k04 := HF4.out.c0; clear hf4 ho4)
                    | (go_at_call 56; refine (HSY2.out _ _ out p2 e2 C p3 _ HK4.out HF4.out HP2.out.1 HC3.out).mono ?_; rintro r w5 ⟨rfl, hb5, ho5⟩; have HF5 := Lib.hid (HF4.out.read ho5 hb5); have HK5 := Lib.hid (HK4.out.trans (ho5.keeps HF4.out.tg HF4.out.tb)); have k05 := HF5.out.c0; have k25 := HF5.out.bs.c2; clear hb5 ho5)
                    | (go_at_call 58; refine (HDN.out _ _ out p3 0 C Y p4 _ HK5.out HF5.out HP3.out.1 (by omega) HD1.out).mono ?_; rintro r w6 ⟨rfl, hf6, ho6⟩; have HF6 := Lib.hid hf6; have HK6 := Lib.hid (HK5.out.trans (ho6.keeps HF5.out.tg HF5.out.tb)); have k06 := HF6.out.c0; have k16 := HF6.out.c1; have k26 := HF6.out.bs.c2; clear hf6 ho6))
                  obtain ⟨e7, he7⟩ : ∃ e7 : Int, (if e4 = 0 ∧ (out.length : Int) < Y then 4 else e4) = e7 := ⟨_, rfl⟩
                  rw [he7] at hR
                  have HE7 := Lib.hid he7
                  obtain ⟨M, hM⟩ : ∃ M, out.length = M := ⟨_, rfl⟩
                  have HM := Lib.hid hM
                  rw [hM] at k16
                  have HR1 := Lib.hid hR
                  clear he7 hM hR
                  go_cut [111] (fun s wx => Hid (s = .bool (decide (e4 = 0 ∧ (M : Int) < Y))) ∧ wx = w6)
                  case first =>
                    by_cases he4 : e4 = 0
                    · subst he4
                      by_cases hfar : (M : Int) < Y
                      · have HDC : Hid (decide ((0 : Int) = 0 ∧ (M : Int) < Y) = true) := Lib.hid (decide_eq_true ⟨rfl, hfar⟩)
                        go_wp2
                        go_meet
                        exact ⟨Lib.hid (by rw [HDC.out]), rfl⟩
                      · have HDC : Hid (decide ((0 : Int) = 0 ∧ (M : Int) < Y) = false) := Lib.hid (decide_eq_false (fun h => hfar h.2))
                        go_wp2
                        go_meet
                        exact ⟨Lib.hid (by rw [HDC.out]), rfl⟩
                    · have hz4 : (e4 == 0) = false := beq_eq_false_iff_ne.2 he4
                      have HDC : Hid (decide (e4 = 0 ∧ (M : Int) < Y) = false) := Lib.hid (decide_eq_false (fun h => he4 h.1))
                      clear he4
                      go_wp2
                      go_meet
                      exact ⟨Lib.hid (by rw [HDC.out]), rfl⟩
                  case rest =>
                    obtain ⟨hs, rfl⟩ := hcut
                    obtain rfl := hs.out
                    clear hs
                    have HYO : Hid (e7 = 0 → Y ≤ out.length) := Lib.hid (fun h => by
                      have := HE7.out
                      by_cases hc : e4 = 0 ∧ (out.length : Int) < Y
                      · rw [if_pos hc] at this; omega
                      · rw [if_neg hc] at this
                        by_cases h1 : (out.length : Int) < Y
                        · exact absurd ⟨this.trans h, h1⟩ hc
                        · omega)
                    go_upto_if 111 with fail
                    go_cut [110] (fun _ wx => ∃ v7 : Value, Hid (FS wx k g us A n c p4 e7 v7 out most) ∧ Hid (Keeps us w2 wx))
                    case first =>
                      rcases hT : decide (e4 = 0 ∧ (M : Int) < Y) with _ | _
                      · have hE : Hid (e4 = e7) := Lib.hid (by
                          have := HE7.out
                          rw [HM.out, if_neg (of_decide_eq_false hT)] at this
                          exact this)
                        clear hT
                        go_wp2
                        go_meet
                        exact ⟨_, Lib.hid (by rw [← hE.out]; exact HF6.out), HK6⟩
                      · obtain ⟨h40, h41⟩ := of_decide_eq_true hT
                        subst h40
                        have hE : Hid (4 = e7) := Lib.hid (by
                          have := HE7.out
                          rw [HM.out, if_pos ⟨rfl, h41⟩] at this
                          exact this)
                        clear hT
                        go_wp2_with (go_at_call 48; refine (fail_first g n c p4 4 A _ HF6.out.bs).mono ?_; rintro r w7 ⟨rfl, hb7, ho7⟩; have HF7 := Lib.hid (HF6.out.read ho7 hb7); have HK7 := Lib.hid (HK6.out.trans (ho7.keeps HF6.out.tg HF6.out.tb)); clear hb7 ho7)
                        go_meet
                        exact ⟨_, Lib.hid (by rw [← hE.out]; exact HF7.out), HK7⟩
                    case rest =>
                      obtain ⟨v7, HF7, HK7⟩ := hcut
                      obtain ⟨⟨ef, outf⟩, hcp⟩ : ∃ q, copyR most Y X e7 out = q := ⟨_, rfl⟩
                      have HR2 : Hid (codedR zs l (codesS l) d (codesS d) most J p4 ef outf = (p', e', out')) := Lib.hid (by have := HR1.out; rw [hcp] at this; exact this)
                      have HCP := Lib.hid hcp
                      clear hcp k0 k2 k03 k23 k04 k05 k25 k06 k16 k26
                      go_wp2
                      go_loopw [12] (fun i wr => ∃ (j : Nat) (e : Int) (v : Value) (o : List Int), j ≤ X ∧ i = .int .i64 j ∧ Hid (copyR most Y (X - j) e o = (ef, outf)) ∧ Hid (e = 0 → Y ≤ o.length) ∧ Hid (FS wr k g us A n c p4 e v o most) ∧ Hid (Keeps us w2 wr)) (fun i _ => X - (intOf i).toNat)
                      case atStart => exact ⟨0, _, _, out, Nat.zero_le _, rfl, HCP, HYO, HF7, HK7⟩
                      case round =>
                        obtain ⟨j, e, v, o, hj, rfl, HCR, HYL, HFR, HKR⟩ := hrel
                        have k0 := HFR.out.c0
                        have k2 := HFR.out.bs.c2
                        by_cases hlt : j < X
                        · by_cases he : e = 0
                          · subst he
                            have k1 := HFR.out.c1
                            obtain ⟨A2, c2, rfl, hby⟩ := HFR.out.row.byt
                            have hYo := HYL.out rfl
                            have hcR := HCR.out
                            rw [show X - j = (X - (j + 1)) + 1 by omega, copyR, if_pos rfl] at hcR
                            obtain ⟨b, of, rfl, _, hc⟩ := hby.cell (by omega)
                            have ck := hc (o.length - Y) (by omega)
                            have hz := hby.getD (o.length - Y)
                            obtain ⟨z, hzz⟩ : ∃ z, o.getD (o.length - Y) 0 = z := ⟨_, rfl⟩
                            rw [hzz] at ck hz hcR
                            obtain ⟨M2, hM2⟩ : ∃ M2, o.length = M2 := ⟨_, rfl⟩
                            have HM2 := Lib.hid hM2
                            have hMx := HFR.out.row.le
                            rw [hM2] at ck hYo k1 hMx
                            have hMI : (M2 : Int) ≤ 9223372036854775807 := by omega
                            obtain ⟨D, hD⟩ : ∃ D, M2 - Y = D := ⟨_, rfl⟩
                            rw [hD] at ck
                            have hDM : D < M2 := by omega
                            have e1 : (M2 : Int) - Y = D := by omega
                            have e2 : IntKind.i64.wrap (D : Int) = D := IntWalk.i64_in _ (by omega)
                            have HCR2 := Lib.hid hcR
                            have HPUT := Lib.hid (putC k g n c p4 most 0 z A _ o us _ (HFR.out.drewN 1) hz hm)
                            have HYO2 : Hid (Y ≤ M2) := Lib.hid hYo
                            clear hcR hby hc hzz hM2 hD hMx hYo
                            go_upto_block 3 with fail
                            go_cut [141] (fun _ wx => ∃ v9 : Value, Hid (FS wx k g us A n c p4 (putE most o 0) v9 (putO most o 0 z) most) ∧ Hid (Keeps us w2 wx))
                            case first =>
                              go_upto_region 19 with fail
                              go_region_with (go_at_call 55; refine HPUT.out.mono ?_; rintro r w9 ⟨rfl, v9, hf9, hk9⟩; have HF9 := Lib.hid hf9; have HK9 := Lib.hid (HKR.out.trans (((Keeps.refl _ _).drewN 1).trans hk9)); clear hf9 hk9)
                              all_goals
                                go_wp2_with fail
                                go_meet
                                exact ⟨v9, HF9, HK9⟩
                            case rest =>
                              obtain ⟨v9, HF9, HK9⟩ := hcut
                              clear e1 e2 ck k0 k1 k2
                              go_wp2
                              go_roundw
                              case rel => exact ⟨j + 1, _, v9, _, by omega, by go_num, HCR2, Lib.hid fun _ => Nat.le_trans (by rw [HM2.out]; exact HYO2.out) (putO_len _ _ _ _), HF9, HK9⟩
                              case measure => simp [intOf]; omega
                          · have hz : (e == 0) = false := beq_eq_false_iff_ne.2 he
                            have HEO : Hid (e = ef ∧ o = outf) := Lib.hid (by have := HCR.out; rw [copyR_bad most Y (X - j) e o he] at this; exact Prod.mk.inj this)
                            clear he
                            go_wp2
                            go_roundw
                            case rel => exact ⟨J, p4, e, v, o, Lib.hid ⟨HP4.out.1, fun _ => by have := HJ.out; have := HGT.out; have := HP1.out; have := HP2.out; have := HP3.out; have := HP4.out; omega⟩, Lib.hid (by rw [HEO.out.1, HEO.out.2]; exact HR2.out), HFR, HKR⟩
                            case measure => rw [HF.out.pOf, HFR.out.pOf]; have := HGT.out; have := HP1.out; have := HP2.out; have := HP3.out; have := HP4.out; omega
                        · obtain rfl : j = X := by omega
                          have HEO : Hid (e = ef ∧ o = outf) := Lib.hid (by have := HCR.out; rw [Nat.sub_self, copyR] at this; exact Prod.mk.inj this)
                          go_wp2
                          go_roundw
                          case rel => exact ⟨J, p4, e, v, o, Lib.hid ⟨HP4.out.1, fun _ => by have := HJ.out; have := HGT.out; have := HP1.out; have := HP2.out; have := HP3.out; have := HP4.out; omega⟩, Lib.hid (by rw [HEO.out.1, HEO.out.2]; exact HR2.out), HFR, HKR⟩
                          case measure => rw [HF.out.pOf, HFR.out.pOf]; have := HGT.out; have := HP1.out; have := HP2.out; have := HP3.out; have := HP4.out; omega
              · have hz1 : (e3 == 0) = false := beq_eq_false_iff_ne.2 he3
                have hz2 : (e3 != 0) = true := by simpa using he3
                have HE : Hid ((p3, e3, out) = (p', e', out')) := Lib.hid (by rw [if_pos he3] at hR; exact hR)
                clear hR he3
                go_wp2_with (first
                  | (go_at_call 56; with_reducible refine HCA.out.mono ?_; rintro r w3 ⟨rfl, hb3, ho3⟩; have HF3 := Lib.hid (HF.out.read ho3 hb3); have HK3 := Lib.hid (HK.out.trans (ho3.keeps HF.out.tg HF.out.tb)); have k03 := HF3.out.c0; have k23 := HF3.out.bs.c2; clear hb3 ho3)
                  | (go_at_call 57; refine (HLN.out _ _ out p1 0 S X p2 e2 HK3.out HF3.out HP1.out.1 (by omega) (by omega) HL1.out).mono ?_; rintro r w4 ⟨rfl, hf4, ho4⟩; have HF4 := Lib.hid hf4; have HK4 := Lib.hid (HK3.out.trans (ho4.keeps HF3.out.tg HF3.out.tb)); have k04 := HF4.out.c0; clear hf4 ho4)
                  | (go_at_call 56; refine (HSY2.out _ _ out p2 e2 c3 p3 _ HK4.out HF4.out HP2.out.1 HC3.out).mono ?_; rintro r w5 ⟨rfl, hb5, ho5⟩; have HF5 := Lib.hid (HF4.out.read ho5 hb5); have HK5 := Lib.hid (HK4.out.trans (ho5.keeps HF4.out.tg HF4.out.tb)); have k05 := HF5.out.c0; have k25 := HF5.out.bs.c2; clear hb5 ho5))
                (try simp only [Exit.inBlock, Exit.then])
                refine ⟨rfl, _, results_none rfl _ _ _, ?_⟩
                obtain ⟨rfl, h3⟩ := Prod.mk.inj HE.out
                obtain ⟨rfl, rfl⟩ := Prod.mk.inj h3
                exact ⟨rfl, _, HF5.out.sub HTU.out, HKT.out _ HK5.out⟩
      · have hz1 : (e1 == 0) = false := beq_eq_false_iff_ne.2 he1
        have hz2 : (e1 != 0) = true := by simpa using he1
        have HE : Hid ((p1, e1, out) = (p', e', out')) := Lib.hid (by rw [if_pos (.inl he1)] at hR; exact hR)
        clear hR hs1 hp1 hv1 he1
        go_wp2_with (go_at_call 56; with_reducible refine HCA.out.mono ?_; rintro r w3 ⟨rfl, hb3, ho3⟩; have HF3 := Lib.hid (HF.out.read ho3 hb3); have HK3 := Lib.hid (HK.out.trans (ho3.keeps HF.out.tg HF.out.tb)); have k03 := HF3.out.c0; have k23 := HF3.out.bs.c2; clear hb3 ho3)
        (try simp only [Exit.inBlock, Exit.then])
        refine ⟨rfl, _, results_none rfl _ _ _, ?_⟩
        obtain ⟨rfl, h3⟩ := Prod.mk.inj HE.out
        obtain ⟨rfl, rfl⟩ := Prod.mk.inj h3
        exact ⟨rfl, _, HF3.out.sub HTU.out, HKT.out _ HK3.out⟩
    · have hz : (e == 0) = false := beq_eq_false_iff_ne.2 he
      have HE : Hid ((q, e, out) = (p', e', out')) := Lib.hid (by rw [← codedR_bad zs l (codesS l) d (codesS d) most F q e out he]; exact HR.out)
      clear he
      go_wp2
      (try simp only [Exit.inBlock, Exit.then])
      refine ⟨rfl, _, results_none rfl _ _ _, ?_⟩
      obtain ⟨rfl, h3⟩ := Prod.mk.inj HE.out
      obtain ⟨rfl, rfl⟩ := Prod.mk.inj h3
      exact ⟨rfl, _, HF.out.sub HTU.out, HKT.out _ HK.out⟩
end Go.Proofs.Ytginbilakdenmaa
