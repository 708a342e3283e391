/- Chapter 11, the project's own: texts. -/
import Derived.Test.YtojbhckgegoldaaLv11
import Derived.Test.YtojbhckgegoldaaLt11
namespace Go.Proofs.Ytojbhckgegoldaa
open Go.RowKit
set_option linter.unusedVariables false
set_option maxRecDepth 100000

theorem text_step (zs : List Int) (f q : Nat) (k k2 : Int) (out : List Int) (R : Int × List Int × Nat) (cc : Int) (q' : Nat) (d : Int) (hR : textF zs (f + 1) q k out = R) (hq : q < zs.length) (hp : pcZ zs q = (cc, q', d)) (hk : k + d = k2) :
    (k2 = 0 ∧ R = (0, out, q')) ∨ (k2 ≠ 0 ∧ cc < 0 ∧ textF zs f q' k2 out = R) ∨ (k2 ≠ 0 ∧ 0 ≤ cc ∧ 32767 ≤ out.length ∧ R.1 = 3) ∨ (k2 ≠ 0 ∧ 0 ≤ cc ∧ out.length < 32767 ∧ textF zs f q' k2 (out ++ [cc]) = R) := by
  rw [textF, if_neg (by omega), hp] at hR
  dsimp only at hR
  rw [hk] at hR
  by_cases h1 : k2 = 0
  · rw [if_pos h1] at hR
    exact .inl ⟨h1, hR.symm⟩
  · rw [if_neg h1] at hR
    by_cases h2 : cc < 0
    · rw [if_pos h2] at hR
      exact .inr (.inl ⟨h1, h2, hR⟩)
    · rw [if_neg h2] at hR
      by_cases h3 : 32767 ≤ out.length
      · rw [if_pos h3] at hR
        exact .inr (.inr (.inl ⟨h1, by omega, h3, by rw [← hR]⟩))
      · rw [if_neg h3] at hR
        exact .inr (.inr (.inr ⟨h1, by omega, by omega, hR⟩))
theorem text_end (zs : List Int) (f q : Nat) (k : Int) (out : List Int) (R : Int × List Int × Nat) (hR : textF zs (f + 1) q k out = R) (hq : zs.length ≤ q) : R.1 = 2 := by
  rw [textF, if_pos hq] at hR
  rw [← hR]

set_option maxHeartbeats 8000000 in
theorem ptextC (h g n c p B : Nat) (A : Option Addr) (zs : List Int) (w : World) (hx : LX w h g A n c p) (hb : Byt w B A n c zs) (hB : B ≤ g) (hn : n ≤ 1000000) :
    Calls Try.prog 48 #[.pointer (some ⟨h, 0, none⟩)] w (TkP h g A n c ⟨(textF zs (zs.length + 1) p 1 []).1, 3, 0, (textF zs (zs.length + 1) p 1 []).2.1, (textF zs (zs.length + 1) p 1 []).2.2⟩ w) := by
  have HB := Lib.hid hb
  have HGW := Lib.hid (Nat.le_of_lt hx.cu.lt)
  have HL := Lib.hid hb.len
  have HPL := Lib.hid hx.pl
  have hbx := Bx.new w 28 (.int .i64 0) (.int .i64 0) (.int .i64 0) (.slice none 0 0)
  have hb0 : Below w.heap.size w (w.alloc (.cells (tkC 0 0 0 none 0 0) 28)) := (Below.refl w.heap.size w).alloc (Nat.le_refl _) _
  obtain ⟨W0, hW0⟩ : ∃ W0, w.alloc (.cells (tkC 0 0 0 none 0 0) 28) = W0 := ⟨_, rfl⟩
  have hs0 : W0.heap.size = w.heap.size + 1 := by rw [← hW0]; simp
  rw [show w.alloc (.cells #[.int .i64 0, .int .i64 0, .int .i64 0, .slice none 0 0] 28) = W0 from hW0] at hbx
  rw [hW0] at hb0
  have HW0 := Lib.hid (show w.alloc (.cells #[.int .i64 0, .int .i64 0, .int .i64 0, .slice none 0 0] 28) = W0 from hW0)
  have HBX := Lib.hid hbx
  have HB0 := Lib.hid hb0
  have HS0 := Lib.hid hs0
  have HO0 : Hid (Only g w W0) := Lib.hid (Only.of_below hb0 g)
  have hltg := hx.cu.lt
  have hlth := hx.lt
  have HX0 := Lib.hid (hx.below hb0 hlth hltg)
  have HBY0 := Lib.hid (hb.below hb0 (by omega))
  have HLT := Lib.hid (show g < w.heap.size ∧ h < w.heap.size from ⟨hltg, hlth⟩)
  clear hbx hb0 hW0 hs0 hltg hlth
  have HNS0 := Lib.hid (NS.start (w := w) 3 HX0.out HO0.out HBX.out HS0.out HLT.out)
  obtain ⟨W1, hW1⟩ : ∃ W1, W0.alloc (.cells #[.int .i64 3, .int .i64 0, .int .i64 0, .slice none 0 0] 28) = W1 := ⟨_, rfl⟩
  rw [hW1] at HNS0
  have HW1 := Lib.hid hW1
  have HNX := Lib.hid (fun W q (hW : LX W h g A n c q) (ho : Only g w W) => lxnext h g n c q B A zs W hW (HB.out.only ho hB HGW.out) hn)
  have HLI := Lib.hid (fun W q x (hW : LX W h g A n c q) (ho : Only g w W) => plineC h g n c q B A zs x W hW (HB.out.only ho hB HGW.out) hn)
  have HES := Lib.hid (fun W q (hW : LX W h g A n c q) (ho : Only g w W) => pescC h g n c q B A zs W hW (HB.out.only ho hB HGW.out) hB hn)
  obtain ⟨R, hR⟩ : ∃ R, textF zs (zs.length + 1) p 1 [] = R := ⟨_, rfl⟩
  rw [hR]
  have HR := Lib.hid hR
  clear hx hb hW1 hR
  go_enter Try.func48, Try.ntmps48
  go_wp2_with fail
  rw [HW0.out, HW1.out]
  go_loopg [5, 6] (n + 1) (fun gk s5 s6 wr => ∃ (q : Nat) (k : Int) (v : Value) (out : List Int), s5 = .int .i64 k ∧ Hid (NS w wr h g A n c q 3 v out) ∧ Hid (textF zs gk q k out = R) ∧ Hid (n < gk + q) ∧ Hid (out.length ≤ 32767) ∧ Hid (1 ≤ k ∧ k ≤ q + 1))
  case atStart => exact ⟨p, 1, _, [], rfl, HNS0, Lib.hid (by rw [← HL.out]; exact HR.out), Lib.hid (by omega), Lib.hid (by simp), Lib.hid (by omega)⟩
  case round =>
    obtain ⟨q, k, v, out, rfl, HN, HF, HG, HOL, HK⟩ := hrel
    have hgk : ∃ f, gk = f + 1 := ⟨gk - 1, by have := HN.out.lx.pl; have := HG.out; omega⟩
    obtain ⟨f, rfl⟩ := hgk
    have k0 := HN.out.lx.k0
    have HNX2 := Lib.hid (HNX.out wr q HN.out.lx HN.out.ol)
    have hbd := peekZ_bd zs HB.out.rng (q : Int)
    obtain ⟨y, hy⟩ : ∃ y, peekZ zs (q : Int) = y := ⟨_, rfl⟩
    rw [hy] at HNX2 hbd
    have HY := Lib.hid hy
    by_cases hlt : y < 0
    · obtain rfl : y = -1 := by omega
      have HR2 : Hid (R.1 = 2) := Lib.hid (text_end zs f q k out R HF.out (by
        rcases Nat.lt_or_ge q zs.length with hq | hq
        · exfalso
          have h1 := peekZ_in zs q hq
          rw [getD_eq zs q hq] at h1
          have := (HB.out.rng _ (List.getElem_mem hq)).1
          omega
        · exact hq))
      clear hlt hbd hy
      go_wp2_with (first
        | (go_at_call 62; refine HNX2.out.mono ?_; (rintro e w2 ⟨rfl, hx2, ho2⟩); have HN4 := Lib.hid (HN.out.moved hx2 ho2); clear hx2 ho2; have r0 := HN4.out.b0.c0; have r1 := HN4.out.b0.c1; have r2 := HN4.out.b0.c2; have r3 := HN4.out.b0.c3; have rf := HN4.out.b0.fr))
      refine bodyPost_ret (results_cell_row_tmp rfl _ _ w.heap.size 28 _ (0, 0) _ rfl HN4.out.b0.set4_ Try.underlying28 rfl (by kernel_rfl) _ rfl) rfl ?_
      have hl := HLT.out
      rw [HR2.out]
      exact ⟨_, _, _, _, _, _, _, rfl, HN4.out.lx.set4_ (by omega) (by omega), HN4.out.ol.set4_ (Nat.le_refl _), fun h0 => absurd (show (2 : Int) = 0 from h0) (by decide)⟩
    · have hq : q < zs.length := peekZ_lt zs q (by omega)
      have hqn : q < n := by have := HL.out; omega
      rw [nxP_in hqn] at HNX2
      have HQ := Lib.hid hq
      have HQN := Lib.hid hqn
      have hkk := HK.out
      clear hq hqn
      obtain rfl | rfl | rfl | rfl | rfl | hy1 : y = 40 ∨ y = 41 ∨ y = 13 ∨ y = 10 ∨ y = 92 ∨ (y ≠ 40 ∧ y ≠ 41 ∧ y ≠ 13 ∧ y ≠ 10 ∧ y ≠ 92) := by omega
      · have hpc : pcZ zs q = (40, q + 1, 1) := by simp [pcZ, hy]
        obtain ⟨k2, hk2⟩ : ∃ k2, k + 1 = k2 := ⟨_, rfl⟩
        have HK2 := Lib.hid (show k2 = k + 1 from hk2.symm)
        have wk : IntKind.i64.wrap (k + 1) = k2 := by rw [hk2]; exact IntWalk.i64_in _ (by have := HN.out.lx.pl; omega)
        have HQQ := Lib.hid (show q < q + 1 by omega)
        rcases text_step zs f q k k2 out R 40 _ 1 HF.out HQ.out hpc hk2 with ⟨hz, hE⟩ | ⟨hz, hc0, hF⟩ | ⟨hz, hc0, h127, hE⟩ | ⟨hz, hc0, h127, hF⟩
        · omega
        · omega
        · have hzb : (k2 == 0) = false := beq_eq_false_iff_ne.2 hz
          have HZ := Lib.hid hz
          have HE := Lib.hid hE
          have hbig : ((out.length : Int) + 1 > 32767) := by omega
          have hbig2 : ((out.length + 1 : Nat) : Int) > 32767 := by omega
          have HNR := Lib.hid (fun W qq (hW : NS w W h g A n c qq 3 v out) => hW.room 40 (by omega) (by have := HOL.out; omega))
          obtain ⟨A', c', rfl, hby, hfr⟩ := HN.out.byt
          clear hE hpc hby hfr hz h127 hk2 hc0
          go_wp2_with (first
            | (go_at_call 62; refine HNX2.out.mono ?_; (rintro e w2 ⟨rfl, hx2, ho2⟩); have HN2 := Lib.hid (HN.out.moved hx2 ho2); clear hx2 ho2; have k0 := HN2.out.lx.k0; have t3 := HN2.out.b1.c3)
            | (at_builtin; obtain ⟨v6, w6, hrun, hs6, hf6, hk6, A6, c6, rfl⟩ := HNR.out _ _ HN2.out; refine Lib.wpList_append_run_sl _ rfl (.tmp 41) (.tmp 44) 25 rfl _ _ rfl rfl hrun ?_; clear hrun; have HN6 := Lib.hid hs6; clear hs6; have t3 := HN6.out.b1.c3; have r0 := HN6.out.b0.c0; have r1 := HN6.out.b0.c1; have r2 := HN6.out.b0.c2; have r3 := HN6.out.b0.c3; have rf := HN6.out.b0.fr))
          refine bodyPost_ret (results_cell_row_tmp rfl _ _ w.heap.size 28 _ (0, 0) _ rfl HN6.out.b0.set4_ Try.underlying28 rfl (by kernel_rfl) _ rfl) rfl ?_
          have hl := HLT.out
          rw [HE.out]
          exact ⟨_, _, _, _, _, _, _, rfl, HN6.out.lx.set4_ (by omega) (by omega), HN6.out.ol.set4_ (Nat.le_refl _), fun h0 => absurd (show (3 : Int) = 0 from h0) (by decide)⟩
        · have hzb : (k2 == 0) = false := beq_eq_false_iff_ne.2 hz
          have HZ := Lib.hid hz
          have HF2 := Lib.hid hF
          have H127 := Lib.hid h127
          have hbig : decide ((out.length : Int) + 1 > 32767) = false := decide_eq_false (by omega)
          have hbig2 : decide (32767 < (out.length : Int) + 1) = false := decide_eq_false (by omega)
          have HNR := Lib.hid (fun W qq (hW : NS w W h g A n c qq 3 v out) => hW.room 40 (by omega) (by have := HOL.out; omega))
          obtain ⟨A', c', rfl, hby, hfr⟩ := HN.out.byt
          clear hF hpc hby hfr hz h127 hk2 hc0
          go_wp2_with (first
            | (go_at_call 62; refine HNX2.out.mono ?_; (rintro e w2 ⟨rfl, hx2, ho2⟩); have HN2 := Lib.hid (HN.out.moved hx2 ho2); clear hx2 ho2; have k0 := HN2.out.lx.k0; have t3 := HN2.out.b1.c3)
            | (at_builtin; obtain ⟨v6, w6, hrun, hs6, hf6, hk6, A6, c6, rfl⟩ := HNR.out _ _ HN2.out; refine Lib.wpList_append_run_sl _ rfl (.tmp 41) (.tmp 44) 25 rfl _ _ rfl rfl hrun ?_; clear hrun; have HN6 := Lib.hid hs6; clear hs6; have t3 := HN6.out.b1.c3; have r0 := HN6.out.b0.c0; have r1 := HN6.out.b0.c1; have r2 := HN6.out.b0.c2; have r3 := HN6.out.b0.c3; have rf := HN6.out.b0.fr))
          go_roundg f
          case rel => exact ⟨_, k2, _, _, rfl, HN6, HF2, Lib.hid (by have h1 := HG.out; have h2 := HQQ.out; omega), Lib.hid (by rw [List.length_append]; have := H127.out; simp; omega), Lib.hid (by have h1 := HK.out; have h2 := HQQ.out; have h3 := HK2.out; have h4 := HZ.out; omega)⟩
          case measure => omega
      · have hpc : pcZ zs q = (41, q + 1, -1) := by simp [pcZ, hy]
        obtain ⟨k2, hk2⟩ : ∃ k2, k + -1 = k2 := ⟨_, rfl⟩
        have HK2 := Lib.hid (show k2 = k - 1 by omega)
        have wk : IntKind.i64.wrap (k - 1) = k2 := by rw [show k - 1 = k2 by omega]; exact IntWalk.i64_in _ (by have := HN.out.lx.pl; omega)
        have HQQ := Lib.hid (show q < q + 1 by omega)
        rcases text_step zs f q k k2 out R 41 _ (-1) HF.out HQ.out hpc hk2 with ⟨hz, hE⟩ | ⟨hz, hc0, hF⟩ | ⟨hz, hc0, h127, hE⟩ | ⟨hz, hc0, h127, hF⟩
        · have HE := Lib.hid hE
          have hzb : (k2 == 0) = true := beq_iff_eq.2 hz
          obtain ⟨A', c', rfl, hby, hfr⟩ := HN.out.byt
          clear hE hpc hby hfr hz hk2
          go_wp2_with (first
            | (go_at_call 62; refine HNX2.out.mono ?_; (rintro e w2 ⟨rfl, hx2, ho2⟩); have HN2 := Lib.hid (HN.out.moved hx2 ho2); clear hx2 ho2; have k0 := HN2.out.lx.k0; have t0 := HN2.out.b1.c0; have t1 := HN2.out.b1.c1; have t2 := HN2.out.b1.c2; have t3 := HN2.out.b1.c3; have r0 := HN2.out.b0.c0; have r1 := HN2.out.b0.c1; have r2 := HN2.out.b0.c2; have r3 := HN2.out.b0.c3; have rf := HN2.out.b0.fr))
          obtain ⟨A9, c9, he9, hby, hfr⟩ := HN2.out.byt
          injection he9 with e1 e2 e3
          subst e1 e3
          refine bodyPost_ret (results_cell_row_tmp rfl _ _ w.heap.size 28 _ (0, 0) _ rfl HN2.out.b0.set4_ Try.underlying28 rfl (by kernel_rfl) _ rfl) rfl ?_
          have hl := HLT.out
          rw [HE.out]
          exact ⟨_, _, _, _, _, _, _, rfl, HN2.out.lx.set4_ (by omega) (by omega), HN2.out.ol.set4_ (Nat.le_refl _), fun _ => ⟨rfl, rfl, rfl, by rw [size_set4]; exact hby.set4_ hfr (by omega), fun h0 b o e => by have := hfr h0 b o e; omega⟩⟩
        · omega
        · have hzb : (k2 == 0) = false := beq_eq_false_iff_ne.2 hz
          have HZ := Lib.hid hz
          have HE := Lib.hid hE
          have hbig : ((out.length : Int) + 1 > 32767) := by omega
          have hbig2 : ((out.length + 1 : Nat) : Int) > 32767 := by omega
          have HNR := Lib.hid (fun W qq (hW : NS w W h g A n c qq 3 v out) => hW.room 41 (by omega) (by have := HOL.out; omega))
          obtain ⟨A', c', rfl, hby, hfr⟩ := HN.out.byt
          clear hE hpc hby hfr hz h127 hk2 hc0
          go_wp2_with (first
            | (go_at_call 62; refine HNX2.out.mono ?_; (rintro e w2 ⟨rfl, hx2, ho2⟩); have HN2 := Lib.hid (HN.out.moved hx2 ho2); clear hx2 ho2; have k0 := HN2.out.lx.k0; have t3 := HN2.out.b1.c3)
            | (at_builtin; obtain ⟨v6, w6, hrun, hs6, hf6, hk6, A6, c6, rfl⟩ := HNR.out _ _ HN2.out; refine Lib.wpList_append_run_sl _ rfl (.tmp 41) (.tmp 44) 25 rfl _ _ rfl rfl hrun ?_; clear hrun; have HN6 := Lib.hid hs6; clear hs6; have t3 := HN6.out.b1.c3; have r0 := HN6.out.b0.c0; have r1 := HN6.out.b0.c1; have r2 := HN6.out.b0.c2; have r3 := HN6.out.b0.c3; have rf := HN6.out.b0.fr))
          refine bodyPost_ret (results_cell_row_tmp rfl _ _ w.heap.size 28 _ (0, 0) _ rfl HN6.out.b0.set4_ Try.underlying28 rfl (by kernel_rfl) _ rfl) rfl ?_
          have hl := HLT.out
          rw [HE.out]
          exact ⟨_, _, _, _, _, _, _, rfl, HN6.out.lx.set4_ (by omega) (by omega), HN6.out.ol.set4_ (Nat.le_refl _), fun h0 => absurd (show (3 : Int) = 0 from h0) (by decide)⟩
        · have hzb : (k2 == 0) = false := beq_eq_false_iff_ne.2 hz
          have HZ := Lib.hid hz
          have HF2 := Lib.hid hF
          have H127 := Lib.hid h127
          have hbig : decide ((out.length : Int) + 1 > 32767) = false := decide_eq_false (by omega)
          have hbig2 : decide (32767 < (out.length : Int) + 1) = false := decide_eq_false (by omega)
          have HNR := Lib.hid (fun W qq (hW : NS w W h g A n c qq 3 v out) => hW.room 41 (by omega) (by have := HOL.out; omega))
          obtain ⟨A', c', rfl, hby, hfr⟩ := HN.out.byt
          clear hF hpc hby hfr hz h127 hk2 hc0
          go_wp2_with (first
            | (go_at_call 62; refine HNX2.out.mono ?_; (rintro e w2 ⟨rfl, hx2, ho2⟩); have HN2 := Lib.hid (HN.out.moved hx2 ho2); clear hx2 ho2; have k0 := HN2.out.lx.k0; have t3 := HN2.out.b1.c3)
            | (at_builtin; obtain ⟨v6, w6, hrun, hs6, hf6, hk6, A6, c6, rfl⟩ := HNR.out _ _ HN2.out; refine Lib.wpList_append_run_sl _ rfl (.tmp 41) (.tmp 44) 25 rfl _ _ rfl rfl hrun ?_; clear hrun; have HN6 := Lib.hid hs6; clear hs6; have t3 := HN6.out.b1.c3; have r0 := HN6.out.b0.c0; have r1 := HN6.out.b0.c1; have r2 := HN6.out.b0.c2; have r3 := HN6.out.b0.c3; have rf := HN6.out.b0.fr))
          go_roundg f
          case rel => exact ⟨_, k2, _, _, rfl, HN6, HF2, Lib.hid (by have h1 := HG.out; have h2 := HQQ.out; omega), Lib.hid (by rw [List.length_append]; have := H127.out; simp; omega), Lib.hid (by have h1 := HK.out; have h2 := HQQ.out; have h3 := HK2.out; have h4 := HZ.out; omega)⟩
          case measure => omega
      · have hpc : pcZ zs q = (10, if peekZ zs ((q + 1 : Nat) : Int) = 10 then q + 2 else q + 1, 0) := by simp [pcZ, hy]
        have hk2 : k + 0 = k := by omega
        have HK2 := Lib.hid (show k = k from rfl)
        have HCL := Lib.hid (fun W hW ho => HLI.out W (q + 1) 13 hW ho)
        have eQ : (q + 1 + if peekZ zs ((q + 1 : Nat) : Int) = 10 then 1 else 0) = if peekZ zs ((q + 1 : Nat) : Int) = 10 then q + 2 else q + 1 := by split <;> omega
        simp only [if_true, eQ] at HCL
        have HQQ := Lib.hid (show q < if peekZ zs ((q + 1 : Nat) : Int) = 10 then q + 2 else q + 1 by split <;> omega)
        obtain ⟨qq, hqq⟩ : ∃ qq, (if peekZ zs ((q + 1 : Nat) : Int) = 10 then q + 2 else q + 1) = qq := ⟨_, rfl⟩
        rw [hqq] at HCL HQQ hpc
        clear eQ hqq
        rcases text_step zs f q k k out R 10 _ 0 HF.out HQ.out hpc hk2 with ⟨hz, hE⟩ | ⟨hz, hc0, hF⟩ | ⟨hz, hc0, h127, hE⟩ | ⟨hz, hc0, h127, hF⟩
        · omega
        · omega
        · have hzb : (k == 0) = false := beq_eq_false_iff_ne.2 hz
          have HZ := Lib.hid hz
          have HE := Lib.hid hE
          have hbig : ((out.length : Int) + 1 > 32767) := by omega
          have hbig2 : ((out.length + 1 : Nat) : Int) > 32767 := by omega
          have HNR := Lib.hid (fun W qq (hW : NS w W h g A n c qq 3 v out) => hW.room 10 (by omega) (by have := HOL.out; omega))
          obtain ⟨A', c', rfl, hby, hfr⟩ := HN.out.byt
          clear hE hpc hby hfr hz h127 hk2 hc0
          go_wp2_with (first
            | (go_at_call 62; refine HNX2.out.mono ?_; (rintro e w2 ⟨rfl, hx2, ho2⟩); have HN2 := Lib.hid (HN.out.moved hx2 ho2); clear hx2 ho2; have k0 := HN2.out.lx.k0)
            | (go_at_call 63; refine (HCL.out _ HN2.out.lx HN2.out.ol).mono ?_; (rintro e w3 ⟨rfl, hx3, ho3⟩); have HN3 := Lib.hid (HN2.out.moved hx3 ho3); clear hx3 ho3; have t3 := HN3.out.b1.c3)
            | (at_builtin; obtain ⟨v6, w6, hrun, hs6, hf6, hk6, A6, c6, rfl⟩ := HNR.out _ _ HN3.out; refine Lib.wpList_append_run_sl _ rfl (.tmp 41) (.tmp 44) 25 rfl _ _ rfl rfl hrun ?_; clear hrun; have HN6 := Lib.hid hs6; clear hs6; have t3 := HN6.out.b1.c3; have r0 := HN6.out.b0.c0; have r1 := HN6.out.b0.c1; have r2 := HN6.out.b0.c2; have r3 := HN6.out.b0.c3; have rf := HN6.out.b0.fr))
          refine bodyPost_ret (results_cell_row_tmp rfl _ _ w.heap.size 28 _ (0, 0) _ rfl HN6.out.b0.set4_ Try.underlying28 rfl (by kernel_rfl) _ rfl) rfl ?_
          have hl := HLT.out
          rw [HE.out]
          exact ⟨_, _, _, _, _, _, _, rfl, HN6.out.lx.set4_ (by omega) (by omega), HN6.out.ol.set4_ (Nat.le_refl _), fun h0 => absurd (show (3 : Int) = 0 from h0) (by decide)⟩
        · have hzb : (k == 0) = false := beq_eq_false_iff_ne.2 hz
          have HZ := Lib.hid hz
          have HF2 := Lib.hid hF
          have H127 := Lib.hid h127
          have hbig : decide ((out.length : Int) + 1 > 32767) = false := decide_eq_false (by omega)
          have hbig2 : decide (32767 < (out.length : Int) + 1) = false := decide_eq_false (by omega)
          have HNR := Lib.hid (fun W qq (hW : NS w W h g A n c qq 3 v out) => hW.room 10 (by omega) (by have := HOL.out; omega))
          obtain ⟨A', c', rfl, hby, hfr⟩ := HN.out.byt
          clear hF hpc hby hfr hz h127 hk2 hc0
          go_wp2_with (first
            | (go_at_call 62; refine HNX2.out.mono ?_; (rintro e w2 ⟨rfl, hx2, ho2⟩); have HN2 := Lib.hid (HN.out.moved hx2 ho2); clear hx2 ho2; have k0 := HN2.out.lx.k0)
            | (go_at_call 63; refine (HCL.out _ HN2.out.lx HN2.out.ol).mono ?_; (rintro e w3 ⟨rfl, hx3, ho3⟩); have HN3 := Lib.hid (HN2.out.moved hx3 ho3); clear hx3 ho3; have t3 := HN3.out.b1.c3)
            | (at_builtin; obtain ⟨v6, w6, hrun, hs6, hf6, hk6, A6, c6, rfl⟩ := HNR.out _ _ HN3.out; refine Lib.wpList_append_run_sl _ rfl (.tmp 41) (.tmp 44) 25 rfl _ _ rfl rfl hrun ?_; clear hrun; have HN6 := Lib.hid hs6; clear hs6; have t3 := HN6.out.b1.c3; have r0 := HN6.out.b0.c0; have r1 := HN6.out.b0.c1; have r2 := HN6.out.b0.c2; have r3 := HN6.out.b0.c3; have rf := HN6.out.b0.fr))
          go_roundg f
          case rel => exact ⟨_, k, _, _, rfl, HN6, HF2, Lib.hid (by have h1 := HG.out; have h2 := HQQ.out; omega), Lib.hid (by rw [List.length_append]; have := H127.out; simp; omega), Lib.hid (by have h1 := HK.out; have h2 := HQQ.out; have h3 := HK2.out; have h4 := HZ.out; omega)⟩
          case measure => omega
      · have hpc : pcZ zs q = (10, q + 1, 0) := by simp [pcZ, hy]
        have hk2 : k + 0 = k := by omega
        have HK2 := Lib.hid (show k = k from rfl)
        have HCL := Lib.hid (fun W hW ho => HLI.out W (q + 1) 10 hW ho)
        rw [show (if (10 : Int) = 13 then (q + 1 + if peekZ zs ((q + 1 : Nat) : Int) = 10 then 1 else 0) else q + 1) = q + 1 from rfl] at HCL
        have HQQ := Lib.hid (show q < q + 1 by omega)
        rcases text_step zs f q k k out R 10 _ 0 HF.out HQ.out hpc hk2 with ⟨hz, hE⟩ | ⟨hz, hc0, hF⟩ | ⟨hz, hc0, h127, hE⟩ | ⟨hz, hc0, h127, hF⟩
        · omega
        · omega
        · have hzb : (k == 0) = false := beq_eq_false_iff_ne.2 hz
          have HZ := Lib.hid hz
          have HE := Lib.hid hE
          have hbig : ((out.length : Int) + 1 > 32767) := by omega
          have hbig2 : ((out.length + 1 : Nat) : Int) > 32767 := by omega
          have HNR := Lib.hid (fun W qq (hW : NS w W h g A n c qq 3 v out) => hW.room 10 (by omega) (by have := HOL.out; omega))
          obtain ⟨A', c', rfl, hby, hfr⟩ := HN.out.byt
          clear hE hpc hby hfr hz h127 hk2 hc0
          go_wp2_with (first
            | (go_at_call 62; refine HNX2.out.mono ?_; (rintro e w2 ⟨rfl, hx2, ho2⟩); have HN2 := Lib.hid (HN.out.moved hx2 ho2); clear hx2 ho2; have k0 := HN2.out.lx.k0)
            | (go_at_call 63; refine (HCL.out _ HN2.out.lx HN2.out.ol).mono ?_; (rintro e w3 ⟨rfl, hx3, ho3⟩); have HN3 := Lib.hid (HN2.out.moved hx3 ho3); clear hx3 ho3; have t3 := HN3.out.b1.c3)
            | (at_builtin; obtain ⟨v6, w6, hrun, hs6, hf6, hk6, A6, c6, rfl⟩ := HNR.out _ _ HN3.out; refine Lib.wpList_append_run_sl _ rfl (.tmp 41) (.tmp 44) 25 rfl _ _ rfl rfl hrun ?_; clear hrun; have HN6 := Lib.hid hs6; clear hs6; have t3 := HN6.out.b1.c3; have r0 := HN6.out.b0.c0; have r1 := HN6.out.b0.c1; have r2 := HN6.out.b0.c2; have r3 := HN6.out.b0.c3; have rf := HN6.out.b0.fr))
          refine bodyPost_ret (results_cell_row_tmp rfl _ _ w.heap.size 28 _ (0, 0) _ rfl HN6.out.b0.set4_ Try.underlying28 rfl (by kernel_rfl) _ rfl) rfl ?_
          have hl := HLT.out
          rw [HE.out]
          exact ⟨_, _, _, _, _, _, _, rfl, HN6.out.lx.set4_ (by omega) (by omega), HN6.out.ol.set4_ (Nat.le_refl _), fun h0 => absurd (show (3 : Int) = 0 from h0) (by decide)⟩
        · have hzb : (k == 0) = false := beq_eq_false_iff_ne.2 hz
          have HZ := Lib.hid hz
          have HF2 := Lib.hid hF
          have H127 := Lib.hid h127
          have hbig : decide ((out.length : Int) + 1 > 32767) = false := decide_eq_false (by omega)
          have hbig2 : decide (32767 < (out.length : Int) + 1) = false := decide_eq_false (by omega)
          have HNR := Lib.hid (fun W qq (hW : NS w W h g A n c qq 3 v out) => hW.room 10 (by omega) (by have := HOL.out; omega))
          obtain ⟨A', c', rfl, hby, hfr⟩ := HN.out.byt
          clear hF hpc hby hfr hz h127 hk2 hc0
          go_wp2_with (first
            | (go_at_call 62; refine HNX2.out.mono ?_; (rintro e w2 ⟨rfl, hx2, ho2⟩); have HN2 := Lib.hid (HN.out.moved hx2 ho2); clear hx2 ho2; have k0 := HN2.out.lx.k0)
            | (go_at_call 63; refine (HCL.out _ HN2.out.lx HN2.out.ol).mono ?_; (rintro e w3 ⟨rfl, hx3, ho3⟩); have HN3 := Lib.hid (HN2.out.moved hx3 ho3); clear hx3 ho3; have t3 := HN3.out.b1.c3)
            | (at_builtin; obtain ⟨v6, w6, hrun, hs6, hf6, hk6, A6, c6, rfl⟩ := HNR.out _ _ HN3.out; refine Lib.wpList_append_run_sl _ rfl (.tmp 41) (.tmp 44) 25 rfl _ _ rfl rfl hrun ?_; clear hrun; have HN6 := Lib.hid hs6; clear hs6; have t3 := HN6.out.b1.c3; have r0 := HN6.out.b0.c0; have r1 := HN6.out.b0.c1; have r2 := HN6.out.b0.c2; have r3 := HN6.out.b0.c3; have rf := HN6.out.b0.fr))
          go_roundg f
          case rel => exact ⟨_, k, _, _, rfl, HN6, HF2, Lib.hid (by have h1 := HG.out; have h2 := HQQ.out; omega), Lib.hid (by rw [List.length_append]; have := H127.out; simp; omega), Lib.hid (by have h1 := HK.out; have h2 := HQQ.out; have h3 := HK2.out; have h4 := HZ.out; omega)⟩
          case measure => omega
      · have hpc : pcZ zs q = ((escE zs n (q + 1)).1, (escE zs n (q + 1)).2, 0) := by
          have := HL.out
          by_cases h1 : q + 1 < n
          · rw [escE, if_pos h1, pcZ, if_pos hy, if_neg (by omega)]
          · rw [escE, if_neg h1, pcZ, if_pos hy, if_pos (by omega)]
        have HX1 : Hid (-1 ≤ (escE zs n (q + 1)).1 ∧ (escE zs n (q + 1)).1 < 256) := Lib.hid (by
          have := HL.out
          by_cases h1 : q + 1 < n
          · rw [escE, if_pos h1]
            have h2 := esc_bd zs HB.out.rng (q + 1) (by omega)
            exact ⟨h2.1, h2.2.1⟩
          · rw [escE, if_neg h1]
            exact ⟨by show (-1 : Int) ≤ -1; omega, by show (-1 : Int) < 256; omega⟩)
        have HQQ : Hid (q < (escE zs n (q + 1)).2) := Lib.hid (by
          have := HL.out
          by_cases h1 : q + 1 < n
          · rw [escE, if_pos h1]
            have h2 := esc_bd zs HB.out.rng (q + 1) (by omega)
            omega
          · rw [escE, if_neg h1]
            show q < q + 1
            omega)
        have hk2 : k + 0 = k := by omega
        have HK2 := Lib.hid (show k = k from rfl)
        have HCL := Lib.hid (fun W hW ho => HES.out W (q + 1) hW ho)
        obtain ⟨⟨x1, qq⟩, hX⟩ : ∃ X, escE zs n (q + 1) = X := ⟨_, rfl⟩
        rw [hX] at hpc HX1 HQQ HCL
        dsimp only at hpc
        clear hX
        rcases text_step zs f q k k out R x1 _ 0 HF.out HQ.out hpc hk2 with ⟨hz, hE⟩ | ⟨hz, hc0, hF⟩ | ⟨hz, hc0, h127, hE⟩ | ⟨hz, hc0, h127, hF⟩
        · omega
        · have HF2 := Lib.hid hF
          have hzb : (k == 0) = false := beq_eq_false_iff_ne.2 hz
          have hcb : decide (x1 < 0) = true := decide_eq_true hc0
          clear hF hpc hz hk2
          go_wp2_with (first
            | (go_at_call 62; refine HNX2.out.mono ?_; (rintro e w2 ⟨rfl, hx2, ho2⟩); have HN2 := Lib.hid (HN.out.moved hx2 ho2); clear hx2 ho2; have k0 := HN2.out.lx.k0)
            | (go_at_call 64; refine (HCL.out _ HN2.out.lx HN2.out.ol).mono ?_; (rintro e w3 ⟨rfl, hx3, ho3⟩); have HN3 := Lib.hid (HN2.out.moved hx3 ho3); clear hx3 ho3))
          go_roundg f
          case rel => exact ⟨_, k, v, out, rfl, HN3, HF2, Lib.hid (by have h1 := HG.out; have h2 := HQQ.out; omega), HOL, Lib.hid (by have h1 := HK.out; have h2 := HQQ.out; have h3 := HK2.out; omega)⟩
          case measure => omega
        · have hzb : (k == 0) = false := beq_eq_false_iff_ne.2 hz
          have HZ := Lib.hid hz
          have HE := Lib.hid hE
          have hbig : ((out.length : Int) + 1 > 32767) := by omega
          have hbig2 : ((out.length + 1 : Nat) : Int) > 32767 := by omega
          have hcb : decide (x1 < 0) = false := decide_eq_false (by omega)
          have wV : IntKind.u8.wrap x1 = x1 := IntWalk.u8_in _ (by have := HX1.out; omega)
          have HNR := Lib.hid (fun W qq (hW : NS w W h g A n c qq 3 v out) => hW.room x1 (by have := HX1.out; omega) (by have := HOL.out; omega))
          obtain ⟨A', c', rfl, hby, hfr⟩ := HN.out.byt
          clear hE hpc hby hfr hz h127 hk2 hc0
          go_wp2_with (first
            | (go_at_call 62; refine HNX2.out.mono ?_; (rintro e w2 ⟨rfl, hx2, ho2⟩); have HN2 := Lib.hid (HN.out.moved hx2 ho2); clear hx2 ho2; have k0 := HN2.out.lx.k0)
            | (go_at_call 64; refine (HCL.out _ HN2.out.lx HN2.out.ol).mono ?_; (rintro e w3 ⟨rfl, hx3, ho3⟩); have HN3 := Lib.hid (HN2.out.moved hx3 ho3); clear hx3 ho3; have t3 := HN3.out.b1.c3)
            | (at_builtin; obtain ⟨v6, w6, hrun, hs6, hf6, hk6, A6, c6, rfl⟩ := HNR.out _ _ HN3.out; refine Lib.wpList_append_run_sl _ rfl (.tmp 41) (.tmp 44) 25 rfl _ _ rfl rfl hrun ?_; clear hrun; have HN6 := Lib.hid hs6; clear hs6; have t3 := HN6.out.b1.c3; have r0 := HN6.out.b0.c0; have r1 := HN6.out.b0.c1; have r2 := HN6.out.b0.c2; have r3 := HN6.out.b0.c3; have rf := HN6.out.b0.fr))
          refine bodyPost_ret (results_cell_row_tmp rfl _ _ w.heap.size 28 _ (0, 0) _ rfl HN6.out.b0.set4_ Try.underlying28 rfl (by kernel_rfl) _ rfl) rfl ?_
          have hl := HLT.out
          rw [HE.out]
          exact ⟨_, _, _, _, _, _, _, rfl, HN6.out.lx.set4_ (by omega) (by omega), HN6.out.ol.set4_ (Nat.le_refl _), fun h0 => absurd (show (3 : Int) = 0 from h0) (by decide)⟩
        · have hzb : (k == 0) = false := beq_eq_false_iff_ne.2 hz
          have HZ := Lib.hid hz
          have HF2 := Lib.hid hF
          have H127 := Lib.hid h127
          have hbig : decide ((out.length : Int) + 1 > 32767) = false := decide_eq_false (by omega)
          have hbig2 : decide (32767 < (out.length : Int) + 1) = false := decide_eq_false (by omega)
          have hcb : decide (x1 < 0) = false := decide_eq_false (by omega)
          have wV : IntKind.u8.wrap x1 = x1 := IntWalk.u8_in _ (by have := HX1.out; omega)
          have HNR := Lib.hid (fun W qq (hW : NS w W h g A n c qq 3 v out) => hW.room x1 (by have := HX1.out; omega) (by have := HOL.out; omega))
          obtain ⟨A', c', rfl, hby, hfr⟩ := HN.out.byt
          clear hF hpc hby hfr hz h127 hk2 hc0
          go_wp2_with (first
            | (go_at_call 62; refine HNX2.out.mono ?_; (rintro e w2 ⟨rfl, hx2, ho2⟩); have HN2 := Lib.hid (HN.out.moved hx2 ho2); clear hx2 ho2; have k0 := HN2.out.lx.k0)
            | (go_at_call 64; refine (HCL.out _ HN2.out.lx HN2.out.ol).mono ?_; (rintro e w3 ⟨rfl, hx3, ho3⟩); have HN3 := Lib.hid (HN2.out.moved hx3 ho3); clear hx3 ho3; have t3 := HN3.out.b1.c3)
            | (at_builtin; obtain ⟨v6, w6, hrun, hs6, hf6, hk6, A6, c6, rfl⟩ := HNR.out _ _ HN3.out; refine Lib.wpList_append_run_sl _ rfl (.tmp 41) (.tmp 44) 25 rfl _ _ rfl rfl hrun ?_; clear hrun; have HN6 := Lib.hid hs6; clear hs6; have t3 := HN6.out.b1.c3; have r0 := HN6.out.b0.c0; have r1 := HN6.out.b0.c1; have r2 := HN6.out.b0.c2; have r3 := HN6.out.b0.c3; have rf := HN6.out.b0.fr))
          go_roundg f
          case rel => exact ⟨_, k, _, _, rfl, HN6, HF2, Lib.hid (by have h1 := HG.out; have h2 := HQQ.out; omega), Lib.hid (by rw [List.length_append]; have := H127.out; simp; omega), Lib.hid (by have h1 := HK.out; have h2 := HQQ.out; have h3 := HK2.out; have h4 := HZ.out; omega)⟩
          case measure => omega
      · obtain ⟨a1, a2, a3, a4, a5⟩ := hy1
        have hpc : pcZ zs q = (y, q + 1, 0) := by simp [pcZ, hy, a1, a2, a3, a5]
        have hk2 : k + 0 = k := by omega
        have HK2 := Lib.hid (show k = k from rfl)
        have b0 : (y == -1) = false := beq_eq_false_iff_ne.2 (by omega)
        have b1 : (y == 40) = false := beq_eq_false_iff_ne.2 a1
        have b2 : (y == 41) = false := beq_eq_false_iff_ne.2 a2
        have b3 : (y == 13) = false := beq_eq_false_iff_ne.2 a3
        have b4 : (y == 10) = false := beq_eq_false_iff_ne.2 a4
        have b5 : (y == 92) = false := beq_eq_false_iff_ne.2 a5
        have HQQ := Lib.hid (show q < q + 1 by omega)
        clear a1 a2 a3 a4 a5
        rcases text_step zs f q k k out R y _ 0 HF.out HQ.out hpc hk2 with ⟨hz, hE⟩ | ⟨hz, hc0, hF⟩ | ⟨hz, hc0, h127, hE⟩ | ⟨hz, hc0, h127, hF⟩
        · omega
        · omega
        · have hzb : (k == 0) = false := beq_eq_false_iff_ne.2 hz
          have HZ := Lib.hid hz
          have HE := Lib.hid hE
          have hbig : ((out.length : Int) + 1 > 32767) := by omega
          have hbig2 : ((out.length + 1 : Nat) : Int) > 32767 := by omega
          have hcb : decide (y < 0) = false := decide_eq_false (by omega)
          have wV : IntKind.u8.wrap y = y := IntWalk.u8_in _ (by omega)
          have HNR := Lib.hid (fun W qq (hW : NS w W h g A n c qq 3 v out) => hW.room y (by omega) (by have := HOL.out; omega))
          obtain ⟨A', c', rfl, hby, hfr⟩ := HN.out.byt
          clear hE hpc hby hfr hz h127 hk2 hc0
          go_wp2_with (first
            | (go_at_call 62; refine HNX2.out.mono ?_; (rintro e w2 ⟨rfl, hx2, ho2⟩); have HN2 := Lib.hid (HN.out.moved hx2 ho2); clear hx2 ho2; have k0 := HN2.out.lx.k0; have t3 := HN2.out.b1.c3)
            | (at_builtin; obtain ⟨v6, w6, hrun, hs6, hf6, hk6, A6, c6, rfl⟩ := HNR.out _ _ HN2.out; refine Lib.wpList_append_run_sl _ rfl (.tmp 41) (.tmp 44) 25 rfl _ _ rfl rfl hrun ?_; clear hrun; have HN6 := Lib.hid hs6; clear hs6; have t3 := HN6.out.b1.c3; have r0 := HN6.out.b0.c0; have r1 := HN6.out.b0.c1; have r2 := HN6.out.b0.c2; have r3 := HN6.out.b0.c3; have rf := HN6.out.b0.fr))
          refine bodyPost_ret (results_cell_row_tmp rfl _ _ w.heap.size 28 _ (0, 0) _ rfl HN6.out.b0.set4_ Try.underlying28 rfl (by kernel_rfl) _ rfl) rfl ?_
          have hl := HLT.out
          rw [HE.out]
          exact ⟨_, _, _, _, _, _, _, rfl, HN6.out.lx.set4_ (by omega) (by omega), HN6.out.ol.set4_ (Nat.le_refl _), fun h0 => absurd (show (3 : Int) = 0 from h0) (by decide)⟩
        · have hzb : (k == 0) = false := beq_eq_false_iff_ne.2 hz
          have HZ := Lib.hid hz
          have HF2 := Lib.hid hF
          have H127 := Lib.hid h127
          have hbig : decide ((out.length : Int) + 1 > 32767) = false := decide_eq_false (by omega)
          have hbig2 : decide (32767 < (out.length : Int) + 1) = false := decide_eq_false (by omega)
          have hcb : decide (y < 0) = false := decide_eq_false (by omega)
          have wV : IntKind.u8.wrap y = y := IntWalk.u8_in _ (by omega)
          have HNR := Lib.hid (fun W qq (hW : NS w W h g A n c qq 3 v out) => hW.room y (by omega) (by have := HOL.out; omega))
          obtain ⟨A', c', rfl, hby, hfr⟩ := HN.out.byt
          clear hF hpc hby hfr hz h127 hk2 hc0
          go_wp2_with (first
            | (go_at_call 62; refine HNX2.out.mono ?_; (rintro e w2 ⟨rfl, hx2, ho2⟩); have HN2 := Lib.hid (HN.out.moved hx2 ho2); clear hx2 ho2; have k0 := HN2.out.lx.k0; have t3 := HN2.out.b1.c3)
            | (at_builtin; obtain ⟨v6, w6, hrun, hs6, hf6, hk6, A6, c6, rfl⟩ := HNR.out _ _ HN2.out; refine Lib.wpList_append_run_sl _ rfl (.tmp 41) (.tmp 44) 25 rfl _ _ rfl rfl hrun ?_; clear hrun; have HN6 := Lib.hid hs6; clear hs6; have t3 := HN6.out.b1.c3; have r0 := HN6.out.b0.c0; have r1 := HN6.out.b0.c1; have r2 := HN6.out.b0.c2; have r3 := HN6.out.b0.c3; have rf := HN6.out.b0.fr))
          go_roundg f
          case rel => exact ⟨_, k, _, _, rfl, HN6, HF2, Lib.hid (by have h1 := HG.out; have h2 := HQQ.out; omega), Lib.hid (by rw [List.length_append]; have := H127.out; simp; omega), Lib.hid (by have h1 := HK.out; have h2 := HQQ.out; have h3 := HK2.out; have h4 := HZ.out; omega)⟩
          case measure => omega
end Go.Proofs.Ytojbhckgegoldaa
