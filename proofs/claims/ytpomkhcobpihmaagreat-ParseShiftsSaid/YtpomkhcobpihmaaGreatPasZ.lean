/- ParseShifts: blanks ahead of a text change nothing of what is read, but move each place by so many. -/
import Derived.Test.YtpomkhcobpihmaaGreatPas47
namespace Go.Proofs.YtpomkhcobpihmaaGreat
open Go.ChangeShapes Go.WideShapes Go.ChangeAt Go.RowKit Go.Deep
set_option linter.unusedVariables false
set_option maxRecDepth 100000
theorem shifts_out (A : Option Addr) (n c : Nat) (d x : Int) (w : World) (hn : n ≤ 9223372036854775807) (h : 600 < n) :
    Calls Tryz.prog 7 #[.slice A n c, .int .i64 d, .int .u8 x] w fun e w' => e = .returned (.bool true) ∧ Below w.heap.size w w' := by
  have HAW := Lib.hid (awake_any12 w)
  have g1 : (n : Int) > 600 := by omega
  go_enter Tryz.func7, Tryz.ntmps7
  go_wp2_with (first
    | (go_at_call 8; refine HAW.out.mono ?_; (rintro e w1 ⟨rfl, hb1⟩)))
  go_ret
  exact ⟨rfl, hb1⟩
theorem byt_litS (w : World) (g : Nat) (z : Int) (hg : w.heap.size = g) (hz : 0 ≤ z ∧ z < 256) : Byt (w.alloc (.cells #[.int .u8 z] 5)) (g + 1) (some ⟨g, 0, none⟩) 1 1 [z] := by subst hg; exact byt_lit0 w z hz
theorem bl_at (i : Nat) : ([.int .u8 32, .int .u8 10, .int .u8 0, .int .u8 9] : List Value)[i % 4]? = some (.int .u8 (blT i)) := by
  unfold blT
  obtain ⟨k, hk⟩ : ∃ k, i % 4 = k := ⟨_, rfl⟩
  have h4 : k < 4 := by omega
  rw [hk]
  obtain rfl | rfl | rfl | rfl : k = 0 ∨ k = 1 ∨ k = 2 ∨ k = 3 := by omega
  all_goals rfl
set_option maxHeartbeats 2500000 in
theorem shifts_main (A : Option Addr) (n c x : Nat) (d : Int) (zs : List Int) (w : World) (hz : Byt w w.heap.size A n c zs) (hn : n ≤ 600) (hd : -9223372036854775808 ≤ d ∧ d ≤ 9223372036854775807) (hx : x ≤ 255) :
    Calls Tryz.prog 7 #[.slice A n c, .int .i64 d, .int .u8 x] w fun e w' => e = .returned (.bool true) ∧ Below w.heap.size w w' := by
  have HAW := Lib.hid (awake_any12 w)
  have g1 : ¬ (n : Int) > 600 := by omega
  have HZ := Lib.hid hz
  have HNN := Lib.hid hn
  have HDD := Lib.hid hd
  have HD2 := Lib.hid (dpZ_le d)
  clear hz hd
  go_enter Tryz.func7, Tryz.ntmps7
  go_upto_region 5 with (first
    | (go_at_call 8; refine HAW.out.mono ?_; (rintro e w1 ⟨rfl, hb1⟩); have HB1 := Lib.hid hb1; clear hb1))
  have hr1 : IntKind.i64.wrap (x : Int) = (x : Int) := IntWalk.i64_in _ (by omega)
  have hr2 : Int.tmod (x : Int) 20 = ((x % 20 : Nat) : Int) := by rw [Int.tmod_eq_emod_of_nonneg (by omega)]; omega
  go_upto_region 7 with fail
  clear hr1 hr2 g1 HAW
  obtain ⟨Y, hY⟩ : ∃ Y, x % 20 = Y := ⟨_, rfl⟩
  have HYL : Hid (Y ≤ 19) := Lib.hid (by omega)
  have hxe : (x : Int) % 20 = (Y : Int) := by omega
  simp only [hxe]
  clear hY hx hxe
  go_wp2_with fail
  go_loopw [8, 9] (fun s8 s9 wr => ∃ i : Nat, i ≤ Y ∧ s9 = .int .i64 i ∧ Hid (Mine wr w1.heap.size s8 i (blL i)) ∧ Hid (Below w1.heap.size w1 wr)) (fun _ s9 _ => Y - (intOf s9).toNat)
  case atStart => exact ⟨0, Nat.zero_le _, rfl, Lib.hid (Mine.nil _ _), Lib.hid (Below.refl _ _)⟩
  case round =>
    obtain ⟨i, hiY, rfl, hmi, hbe⟩ := hrel
    by_cases hi : i < Y
    · have gi : (i : Int) < Y := by omega
      have hr2 : Int.tmod (i : Int) 4 = ((i % 4 : Nat) : Int) := by rw [Int.tmod_eq_emod_of_nonneg (by omega)]; omega
      have hbt := bl_at i
      have hrg := blT_rng i
      have HSL := Lib.hid (show blL (i + 1) = blL i ++ [blT i] from rfl)
      obtain ⟨z, hz⟩ : ∃ z, blT i = z := ⟨_, rfl⟩
      rw [hz] at hbt hrg HSL
      have hb4 := (Below.refl wr.heap.size wr).alloc (Nat.le_refl _) (.cells #[.int .u8 32, .int .u8 10, .int .u8 0, .int .u8 9] 5)
      have hma := hmi.out.kept hb4
      have hla := (Below.refl _ (wr.alloc (.cells #[.int .u8 32, .int .u8 10, .int .u8 0, .int .u8 9] 5))).alloc (Nat.le_refl _) (.cells #[.int .u8 z] 5)
      have hap := (hma.kept hla).append (byt_litS (wr.alloc (.cells #[.int .u8 32, .int .u8 10, .int .u8 0, .int .u8 9] 5)) (wr.heap.size + 1) z (by simp) hrg) 23 (by have := HYL.out; omega) (Nat.le_trans (Nat.le_trans hbe.out.size hb4.size) hla.size)
      have HAP := Lib.hid hap
      have HBW := Lib.hid ((hbe.out.trans (hb4.mono hbe.out.size)).trans (hla.mono (Nat.le_trans hbe.out.size hb4.size)))
      obtain ⟨A6, c6, rfl, _⟩ := hmi.out.byt
      have hi0 : 0 ≤ (i : Int) % 4 := by omega
      have hi4 : (i : Int) % 4 < 4 := by omega
      have hbt2 : ([.int .u8 32, .int .u8 10, .int .u8 0, .int .u8 9] : List Value)[((i : Int) % 4).toNat]? = some (.int .u8 z) := by
        rw [show ((i : Int) % 4).toNat = i % 4 by omega]; exact hbt
      have hi20 : (i : Int) < 20 := by have := HYL.out; omega
      clear hma hla hap hz hrg hb4
      go_wp2_with (first
        | (at_builtin; obtain ⟨v6, w6, hrun, hmi6, hbe6⟩ := HAP.out; refine Lib.wpList_append_run_sl _ rfl (.tmp 33) (.tmp 39) 23 rfl _ _ rfl rfl hrun ?_; clear hrun; have HBE6 := Lib.hid hbe6; have HMI6 := Lib.hid hmi6; clear hbe6 hmi6))
      go_roundw
      case rel => exact ⟨i + 1, by omega, by go_num, Lib.hid (by rw [HSL.out]; exact HMI6.out), Lib.hid (HBW.out.trans HBE6.out)⟩
      case measure => simp [intOf]; omega
    · obtain rfl : i = Y := by omega
      have gi : ¬ (i : Int) < i := by omega
      obtain ⟨A6, c6, rfl, _⟩ := hmi.out.byt
      have hbw := HB1.out.trans (hbe.out.mono HB1.out.size)
      have hzr := (HZ.out.below hbw (Nat.le_refl _)).more hbw.size
      have HNW1 := Lib.hid (pnewC A n c d zs wr hzr (by have := HNN.out; omega) HDD.out)
      have HAP := Lib.hid (fun W (hW : Below wr.heap.size wr W) => (hmi.out.kept hW).appendX (hzr.below hW (Nat.le_refl _)) 23 (by have := HNN.out; have := HYL.out; omega) (Nat.le_trans hbe.out.size hW.size))
      have HNW2 := Lib.hid (fun (A3 : Option Addr) (c3 : Nat) (W : World) (hW : Byt W W.heap.size A3 (i + n) c3 (blL i ++ zs)) => pnewC A3 (i + n) c3 d (blL i ++ zs) W hW (by have := HNN.out; have := HYL.out; omega) HDD.out)
      have HBW := Lib.hid hbw
      have HMI := hmi
      obtain ⟨D, hD⟩ : ∃ D, dpZ d = D := ⟨_, rfl⟩
      rw [hD] at HNW1 HNW2 HD2
      clear hbw hzr hmi hD
      go_upto_region 12 with (first
        | (go_at_call 10; (with_reducible refine HNW1.out.mono ?_); (rintro r w2 ⟨rfl, hx2, hb2⟩); have HX2 := Lib.hid hx2; have HB2 := Lib.hid hb2; have HAP2 := Lib.hid (HAP.out _ hb2); clear hx2 hb2)
        | (at_builtin; obtain ⟨v3, w3, hrun, hm3, hk3⟩ := HAP2.out; obtain ⟨A3, c3, rfl, hby3⟩ := hm3.byt; refine Lib.wpList_append_run_sl _ rfl (.tmp 44) (.tmp 45) 23 rfl _ _ rfl rfl hrun ?_; clear hrun; have HM3 := Lib.hid hm3; have HK3 := Lib.hid hk3; have HNW3 := Lib.hid (HNW2.out A3 c3 _ hby3); clear hm3 hk3 hby3)
        | (go_at_call 10; (with_reducible refine HNW3.out.mono ?_); (rintro r w4 ⟨rfl, hx4, hb4⟩); have HX4 := Lib.hid hx4; have HB4 := Lib.hid hb4; clear hx4 hb4))
      have hq0 := qw_start HZ.out HBW.out HB1.out.size HMI.out HX2.out HB2.out HM3.out HK3.out HX4.out HB4.out
      obtain ⟨m1, hm1⟩ : ∃ m1, wr.heap.size + 2 = m1 := ⟨_, rfl⟩
      obtain ⟨h1, hh1⟩ : ∃ h1, wr.heap.size + 1 = h1 := ⟨_, rfl⟩
      obtain ⟨g1, hg1⟩ : ∃ g1, wr.heap.size = g1 := ⟨_, rfl⟩
      obtain ⟨m2, hm2⟩ : ∃ m2, w3.heap.size + 2 = m2 := ⟨_, rfl⟩
      obtain ⟨h2, hh2⟩ : ∃ h2, w3.heap.size + 1 = h2 := ⟨_, rfl⟩
      obtain ⟨g2, hg2⟩ : ∃ g2, w3.heap.size = g2 := ⟨_, rfl⟩
      rw [hm1, hh1, hg1, hm2, hh2, hg2] at hq0
      rw [hm1, hm2]
      clear hm1 hh1 hg1 hm2 hh2 hg2 HX2 HB2 HM3 HK3 HX4 HB4 HNW1 HNW2 HNW3 HAP HAP2 HMI HBW hbe gi
      have HQ := Lib.hid hq0
      clear hq0
      have hsv := shift_val zs i 999 D
      have hsi := fun p => shift_item zs i 1000 D p
      obtain ⟨R, hR⟩ : ∃ R, parF zs 1000 .val D 0 = R := ⟨_, rfl⟩
      rw [hR] at hsv
      obtain ⟨E, X, q1⟩ := R
      obtain ⟨R2, hR2⟩ : ∃ R2, itemT zs 1000 D q1 = R2 := ⟨_, rfl⟩
      have hsi := hsi q1
      rw [hR2] at hsi
      obtain ⟨N, E2, X2, q2⟩ := R2
      have HSV := Lib.hid hsv
      have HSI := Lib.hid hsi
      have HR := Lib.hid hR
      have HR2 := Lib.hid hR2
      clear hsv hsi hR hR2
      have hc1 := pValueC 1000 HQ.out.x1 HD2.out (by have := HNN.out; omega)
      rw [HR.out] at hc1
      have HC1 := Lib.hid hc1
      clear hc1
      go_upto_region 13 with (first
        | (go_at_call 21; refine HC1.out.mono ?_; (rintro r v1 ⟨d0, d1, d2, d3, d4, hrr, hob, hx5, ho5⟩); (try dsimp only at hrr hob hx5); subst hrr; obtain ⟨k1, n1, A1, m1, e1, B1, l1, f1, C1, o1, h1, rfl, rfl, rfl, rfl, rfl⟩ := hob.shp; have HOX := Lib.hid hob; have HXX := Lib.hid hx5; have HNX := Lib.hid ho5; clear hob hx5 ho5))
      have hb8 := (Below.refl v1.heap.size v1).alloc (Nat.le_refl _) (.cells #[.int .i64 k1, .int .i64 n1, .slice A1 m1 e1, .slice B1 l1 f1, .slice C1 o1 h1] 27)
      have hn8 := heap_alloc_new v1 (.cells #[.int .i64 k1, .int .i64 n1, .slice A1 m1 e1, .slice B1 l1 f1, .slice C1 o1 h1] 27)
      obtain ⟨u1, hw8⟩ : ∃ u1, v1.alloc (.cells #[.int .i64 k1, .int .i64 n1, .slice A1 m1 e1, .slice B1 l1 f1, .slice C1 o1 h1] 27) = u1 := ⟨_, rfl⟩
      rw [hw8] at hb8 hn8
      rw [hw8]
      have hgw := HQ.out.x2.lx.cu.lt
      have hg1 := HQ.out.l1.1
      have hsz := HNX.out.size
      have HK1 := Lib.hid (show OB5 u1 g2 v1.heap.size X (.int .i64 k1) (.int .i64 n1) (.slice A1 m1 e1) (.slice B1 l1 f1) (.slice C1 o1 h1) from ⟨hn8, ObR.keep (fun y hy => hb8.block y hy.2) (fun y hy => ⟨by have := hy.1; omega, Nat.lt_of_lt_of_le hy.2 hb8.size⟩) _ HOX.out, by omega⟩)
      have hq := (HQ.out.mv1 HXX.out HNX.out).low hb8
      clear HQ hb8 hn8 hw8 hgw hg1 hsz HOX HXX HNX HC1
      have HQ := Lib.hid hq
      clear hq
      have hc2 := pValueC 1000 HQ.out.x2 HD2.out (by have := HNN.out; have := HYL.out; omega)
      rw [HSV.out] at hc2
      unfold shB at hc2
      have HC2 := Lib.hid hc2
      clear hc2
      go_upto_region 14 with (first
        | (go_at_call 21; refine HC2.out.mono ?_; (rintro r v2 ⟨d0, d1, d2, d3, d4, hrr, hob, hx5, ho5⟩); (try dsimp only at hrr hob hx5); subst hrr; obtain ⟨k2, n2, A2, m2, e2, B2, l2, f2, C2, o2, h2, rfl, rfl, rfl, rfl, rfl⟩ := hob.shp; have HOX := Lib.hid hob; have HXX := Lib.hid hx5; have HNX := Lib.hid ho5; clear hob hx5 ho5))
      have hb8 := (Below.refl v2.heap.size v2).alloc (Nat.le_refl _) (.cells #[.int .i64 k2, .int .i64 n2, .slice A2 m2 e2, .slice B2 l2 f2, .slice C2 o2 h2] 27)
      have hn8 := heap_alloc_new v2 (.cells #[.int .i64 k2, .int .i64 n2, .slice A2 m2 e2, .slice B2 l2 f2, .slice C2 o2 h2] 27)
      obtain ⟨u2, hw8⟩ : ∃ u2, v2.alloc (.cells #[.int .i64 k2, .int .i64 n2, .slice A2 m2 e2, .slice B2 l2 f2, .slice C2 o2 h2] 27) = u2 := ⟨_, rfl⟩
      rw [hw8] at hb8 hn8
      rw [hw8]
      have hgw := HQ.out.x2.lx.cu.lt
      have hg1 := HQ.out.l1.1
      have hsz := HNX.out.size
      have HK2 := Lib.hid (show OB5 u2 g2 v2.heap.size X (.int .i64 k2) (.int .i64 n2) (.slice A2 m2 e2) (.slice B2 l2 f2) (.slice C2 o2 h2) from ⟨hn8, ObR.keep (fun y hy => hb8.block y hy.2) (fun y hy => ⟨by have := hy.1; omega, Nat.lt_of_lt_of_le hy.2 hb8.size⟩) _ HOX.out, by omega⟩)
      have hp := (HK1.out.only HNX.out (Nat.le_refl _)).low hb8
      clear HK1
      have HK1 := Lib.hid hp
      clear hp
      have hq := (HQ.out.mv2 HXX.out HNX.out).low hb8
      clear HQ hb8 hn8 hw8 hgw hg1 hsz HOX HXX HNX HC2
      have HQ := Lib.hid hq
      clear hq
      have hc3 := pItemC 1000 HQ.out.x1 HD2.out (by have := HNN.out; omega)
      rw [HR2.out] at hc3
      have HC3 := Lib.hid hc3
      clear hc3
      go_upto_region 15 with (first
        | (go_at_call 11; refine HC3.out.mono ?_; (rintro r v3 ⟨d0, d1, d2, d3, d4, hrr, hob, hx5, ho5⟩); (try dsimp only at hrr hob hx5); subst hrr; obtain ⟨k3, n3, A3, m3, e3, B3, l3, f3, C3, o3, h3, rfl, rfl, rfl, rfl, rfl⟩ := hob.shp; have HOX := Lib.hid hob; have HXX := Lib.hid hx5; have HNX := Lib.hid ho5; clear hob hx5 ho5))
      have hb8 := (Below.refl v3.heap.size v3).alloc (Nat.le_refl _) (.cells #[.int .i64 N, .int .i64 k3, .int .i64 n3, .slice A3 m3 e3, .slice B3 l3 f3, .slice C3 o3 h3] 34)
      have hn8 := heap_alloc_new v3 (.cells #[.int .i64 N, .int .i64 k3, .int .i64 n3, .slice A3 m3 e3, .slice B3 l3 f3, .slice C3 o3 h3] 34)
      obtain ⟨u3, hw8⟩ : ∃ u3, v3.alloc (.cells #[.int .i64 N, .int .i64 k3, .int .i64 n3, .slice A3 m3 e3, .slice B3 l3 f3, .slice C3 o3 h3] 34) = u3 := ⟨_, rfl⟩
      rw [hw8] at hb8 hn8
      rw [hw8]
      have hgw := HQ.out.x2.lx.cu.lt
      have hg1 := HQ.out.l1.1
      have hsz := HNX.out.size
      have HK3 := Lib.hid (show OB6 u3 g2 v3.heap.size N X2 (.int .i64 k3) (.int .i64 n3) (.slice A3 m3 e3) (.slice B3 l3 f3) (.slice C3 o3 h3) from ⟨hn8, ObR.keep (fun y hy => hb8.block y hy.2) (fun y hy => ⟨by have := hy.1; omega, Nat.lt_of_lt_of_le hy.2 hb8.size⟩) _ HOX.out, by omega⟩)
      have hp := (HK1.out.only HNX.out (Nat.le_of_lt hg1)).low hb8
      clear HK1
      have HK1 := Lib.hid hp
      clear hp
      have hp := (HK2.out.only HNX.out (Nat.le_of_lt hg1)).low hb8
      clear HK2
      have HK2 := Lib.hid hp
      clear hp
      have hq := (HQ.out.mv1 HXX.out HNX.out).low hb8
      clear HQ hb8 hn8 hw8 hgw hg1 hsz HOX HXX HNX HC3
      have HQ := Lib.hid hq
      clear hq
      have hc4 := pItemC 1000 HQ.out.x2 HD2.out (by have := HNN.out; have := HYL.out; omega)
      rw [HSI.out] at hc4
      unfold shB at hc4
      have HC4 := Lib.hid hc4
      clear hc4
      go_upto_region 16 with (first
        | (go_at_call 11; refine HC4.out.mono ?_; (rintro r v4 ⟨d0, d1, d2, d3, d4, hrr, hob, hx5, ho5⟩); (try dsimp only at hrr hob hx5); subst hrr; obtain ⟨k4, n4, A4, m4, e4, B4, l4, f4, C4, o4, h4, rfl, rfl, rfl, rfl, rfl⟩ := hob.shp; have HOX := Lib.hid hob; have HXX := Lib.hid hx5; have HNX := Lib.hid ho5; clear hob hx5 ho5))
      have hb8 := (Below.refl v4.heap.size v4).alloc (Nat.le_refl _) (.cells #[.int .i64 N, .int .i64 k4, .int .i64 n4, .slice A4 m4 e4, .slice B4 l4 f4, .slice C4 o4 h4] 34)
      have hn8 := heap_alloc_new v4 (.cells #[.int .i64 N, .int .i64 k4, .int .i64 n4, .slice A4 m4 e4, .slice B4 l4 f4, .slice C4 o4 h4] 34)
      obtain ⟨u4, hw8⟩ : ∃ u4, v4.alloc (.cells #[.int .i64 N, .int .i64 k4, .int .i64 n4, .slice A4 m4 e4, .slice B4 l4 f4, .slice C4 o4 h4] 34) = u4 := ⟨_, rfl⟩
      rw [hw8] at hb8 hn8
      rw [hw8]
      have hgw := HQ.out.x2.lx.cu.lt
      have hg1 := HQ.out.l1.1
      have hsz := HNX.out.size
      have HK4 := Lib.hid (show OB6 u4 g2 v4.heap.size N X2 (.int .i64 k4) (.int .i64 n4) (.slice A4 m4 e4) (.slice B4 l4 f4) (.slice C4 o4 h4) from ⟨hn8, ObR.keep (fun y hy => hb8.block y hy.2) (fun y hy => ⟨by have := hy.1; omega, Nat.lt_of_lt_of_le hy.2 hb8.size⟩) _ HOX.out, by omega⟩)
      have hp := (HK1.out.only HNX.out (Nat.le_refl _)).low hb8
      clear HK1
      have HK1 := Lib.hid hp
      clear hp
      have hp := (HK2.out.only HNX.out (Nat.le_refl _)).low hb8
      clear HK2
      have HK2 := Lib.hid hp
      clear hp
      have hp := (HK3.out.only HNX.out (Nat.le_refl _)).low hb8
      clear HK3
      have HK3 := Lib.hid hp
      clear hp
      have hq := (HQ.out.mv2 HXX.out HNX.out).low hb8
      clear HQ hb8 hn8 hw8 hgw hg1 hsz HOX HXX HNX HC4
      have HQ := Lib.hid hq
      clear hq
      have a0 := cell_of_row u4 v1.heap.size 0 _ _ (0, 0) HK1.out.row
      have a1 := cell_of_row u4 v1.heap.size 1 _ _ (0, 0) HK1.out.row
      have a2 := cell_of_row u4 v1.heap.size 2 _ _ (0, 0) HK1.out.row
      have a3 := cell_of_row u4 v1.heap.size 3 _ _ (0, 0) HK1.out.row
      have a4 := cell_of_row u4 v1.heap.size 4 _ _ (0, 0) HK1.out.row
      have b0 := cell_of_row u4 v2.heap.size 0 _ _ (0, 0) HK2.out.row
      have b1 := cell_of_row u4 v2.heap.size 1 _ _ (0, 0) HK2.out.row
      have b2 := cell_of_row u4 v2.heap.size 2 _ _ (0, 0) HK2.out.row
      have b3 := cell_of_row u4 v2.heap.size 3 _ _ (0, 0) HK2.out.row
      have b4 := cell_of_row u4 v2.heap.size 4 _ _ (0, 0) HK2.out.row
      have c0 := cell_of_row u4 v3.heap.size 0 _ _ (0, 0) HK3.out.row
      have c1 := cell_of_row u4 v3.heap.size 1 _ _ (0, 0) HK3.out.row
      have c2 := cell_of_row u4 v3.heap.size 2 _ _ (0, 0) HK3.out.row
      have c3 := cell_of_row u4 v3.heap.size 3 _ _ (0, 0) HK3.out.row
      have c4 := cell_of_row u4 v3.heap.size 4 _ _ (0, 0) HK3.out.row
      have c5 := cell_of_row u4 v3.heap.size 5 _ _ (0, 0) HK3.out.row
      have e0 := cell_of_row u4 v4.heap.size 0 _ _ (0, 0) HK4.out.row
      have e1 := cell_of_row u4 v4.heap.size 1 _ _ (0, 0) HK4.out.row
      have e2 := cell_of_row u4 v4.heap.size 2 _ _ (0, 0) HK4.out.row
      have e3 := cell_of_row u4 v4.heap.size 3 _ _ (0, 0) HK4.out.row
      have e4 := cell_of_row u4 v4.heap.size 4 _ _ (0, 0) HK4.out.row
      have e5 := cell_of_row u4 v4.heap.size 5 _ _ (0, 0) HK4.out.row
      have bE : (E == E) = true := beq_self_eq_true E
      have bE2 : (E2 == E2) = true := beq_self_eq_true E2
      have bN : (N == N) = true := beq_self_eq_true N
      have hpl := HQ.out.x1.lx.pl
      have ew : IntKind.i64.wrap ((q2 : Int) + (i : Int)) = (q2 : Int) + (i : Int) := IntWalk.i64_in _ (by have := HNN.out; have := HYL.out; omega)
      have eq1 : (((i + q2 : Nat) : Int) == (q2 : Int) + (i : Int)) = true := beq_iff_eq.2 (by omega)
      have eq2 : ((i : Int) + (q2 : Int) == (q2 : Int) + (i : Int)) = true := beq_iff_eq.2 (by omega)
      clear hpl
      go_wp2_with (first
        | (go_at_call 14; (with_reducible refine (OB5.same HK1.out HK2.out).mono ?_); (rintro r wS ⟨rfl, hbS⟩); have hq := HQ.out.low hbS; clear HQ; have HQ := Lib.hid hq; have HK5 := Lib.hid (HK3.out.low hbS); have HK6 := Lib.hid (HK4.out.low hbS); clear hq hbS; have c0 := cell_of_row wS v3.heap.size 0 _ _ (0, 0) HK5.out.row; have c1 := cell_of_row wS v3.heap.size 1 _ _ (0, 0) HK5.out.row; have c2 := cell_of_row wS v3.heap.size 2 _ _ (0, 0) HK5.out.row; have c3 := cell_of_row wS v3.heap.size 3 _ _ (0, 0) HK5.out.row; have c4 := cell_of_row wS v3.heap.size 4 _ _ (0, 0) HK5.out.row; have c5 := cell_of_row wS v3.heap.size 5 _ _ (0, 0) HK5.out.row; have e0 := cell_of_row wS v4.heap.size 0 _ _ (0, 0) HK6.out.row; have e1 := cell_of_row wS v4.heap.size 1 _ _ (0, 0) HK6.out.row; have e2 := cell_of_row wS v4.heap.size 2 _ _ (0, 0) HK6.out.row; have e3 := cell_of_row wS v4.heap.size 3 _ _ (0, 0) HK6.out.row; have e4 := cell_of_row wS v4.heap.size 4 _ _ (0, 0) HK6.out.row; have e5 := cell_of_row wS v4.heap.size 5 _ _ (0, 0) HK6.out.row)
        | (go_at_call 14; (with_reducible refine (OB6.same HK5.out HK6.out).mono ?_); (rintro r wS2 ⟨rfl, hbS⟩); have hq := HQ.out.low hbS; clear HQ; have HQ := Lib.hid hq; clear hq hbS)
        | (go_at_call 15; (with_reducible refine (pAtC HQ.out.x2).mono ?_); (rintro r wD ⟨rfl, rfl⟩))
        | (go_at_call 15; (with_reducible refine (pAtC HQ.out.x1).mono ?_); (rintro r wD ⟨rfl, rfl⟩)))
      go_ret
      exact ⟨rfl, HQ.out.bl⟩
theorem shifts_walk (A : Option Addr) (n c : Nat) (zs : List Int) (d x : Int) (w : World) (hz : Byt w w.heap.size A n c zs) (hn : n ≤ 9223372036854775807) (lo : -9223372036854775808 ≤ d) (hi : d ≤ 9223372036854775807) (lx : 0 ≤ x) (hx : x ≤ 255) :
    Calls Tryz.prog 7 #[.slice A n c, .int .i64 d, .int .u8 x] w fun e w' => e = .returned (.bool true) ∧ Below w.heap.size w w' := by
  rcases Nat.lt_or_ge 600 n with h | h
  · exact shifts_out A n c d x w hn h
  · obtain ⟨X, rfl⟩ : ∃ X : Nat, x = (X : Int) := ⟨x.toNat, by omega⟩
    exact shifts_main A n c X d zs w hz h ⟨lo, hi⟩ (by omega)
set_option maxRecDepth 100000 in
theorem shifts_lifted (os : Os) (started : os.Started) (H : Type) (enc : TypeId × Value → H) :
    ReturnsInHanded {} Tryz.checked os 7 .any (Rows.parseShiftsSpec.pre6 enc Tryz.prog Tryz.f7 Rows.parseShiftsRow.domain false) (Rows.parseShiftsSpec.post enc Tryz.prog Tryz.f7 false true false false) := by
  refine returnsInHanded_of_change (C := Tryz.checked) own started (by kernel_rfl) Tryz.func7
    (ChangeSpec.witness6 (enc := enc) (C := Tryz.checked) false ⟨#[], #[.slice none 0 0, .int .i64 0, .int .u8 0], []⟩ 8 (by kernel_rfl) (by kernel_rfl) (by kernel_rfl) (by kernel_rfl)) ?_
  intro W base args ds gs before hval0 hW hcnd _
  have hval : ∀ (j : Nat) t v, Tryz.f7.params[j]? = some t → args[j]? = some v → Value.okWide Tryz.prog W .any base t v := hval0
  have hW' := hW
  obtain ⟨p, q, hA0, hV, rfl, hfz, hnd⟩ := hW
  have hA : DataW.TrodAll enc Tryz.prog W 0 (fun _ => true) true Tryz.f7.params.toList args.toList ds p := hA0
  rw [Tryz.params7] at hA hval
  obtain ⟨v0, vs0, d0, ds0, p0, q0, hargs, rfl, rfl, h0, r0⟩ := trodAll_cons hA
  obtain ⟨v1, vs1, d1, ds1, p1, q1, rfl, rfl, rfl, h1, r1⟩ := trodAll_cons r0
  obtain ⟨v2, vs2, d2, ds2, p2, q2, rfl, rfl, rfl, h2, r2⟩ := trodAll_cons r1
  obtain ⟨rfl, rfl, rfl⟩ := trodAll_nil r2
  obtain rfl : args = #[v0, v1, v2] := by cases args; simp_all
  obtain ⟨rfl, rfl⟩ := trodVars_none hV
  obtain ⟨a0, len0, cap0, rfl⟩ := okWide_slice Tryz.underlying23 (hval 0 23 v0 rfl rfl)
  obtain ⟨zs0, hz0, hcm0⟩ := open_bytes h0 (fun _ => rfl)
  have lt0 : ∀ x ∈ p0, x.block < W.heap.size := by obtain ⟨m, hm⟩ := h0; exact DataW.trod_lt m _ _ _ hm
  obtain ⟨x1, rfl⟩ := okWide_int Tryz.underlying3 (hval 1 3 v1 rfl rfl)
  obtain ⟨lo1, hi1⟩ := open_intk Tryz.underlying3 h1
  rw [show IntKind.i64.min = -9223372036854775808 by decide] at lo1
  rw [show IntKind.i64.max = 9223372036854775807 by decide] at hi1
  have lt1 : ∀ x ∈ p1, x.block < W.heap.size := by obtain ⟨m, hm⟩ := h1; exact DataW.trod_lt m _ _ _ hm
  obtain ⟨x2, rfl⟩ := okWide_int Tryz.underlying5 (hval 2 5 v2 rfl rfl)
  obtain ⟨lo2, hi2⟩ := open_intk Tryz.underlying5 h2
  rw [show IntKind.u8.min = 0 by decide] at lo2
  rw [show IntKind.u8.max = 255 by decide] at hi2
  have lt2 : ∀ x ∈ p2, x.block < W.heap.size := by obtain ⟨m, hm⟩ := h2; exact DataW.trod_lt m _ _ _ hm
  have hmx : maxLen = 9223372036854775807 := by decide
  clear hA0 hval0
  refine (shifts_walk a0 len0 cap0 zs0 x1 x2 W hz0 (by have := hz0.cap; omega) lo1 hi1 lo2 hi2).mono fun e W' ⟨he, bel⟩ => ?_
  subst he
  exact ⟨_, rfl, _, _, _, [], _, [], hW', trodAll_mk1 (shut_bool Tryz.underlying4 _), (trodAll_cons_mk (Below.trod laidOut (by kernel_rfl) (of_decide_eq_true (by kernel_rfl)) h0 bel lt0) (trodAll_cons_mk (Below.trod laidOut (by kernel_rfl) (of_decide_eq_true (by kernel_rfl)) h1 bel lt1) (trodAll_cons_mk (Below.trod laidOut (by kernel_rfl) (of_decide_eq_true (by kernel_rfl)) h2 bel lt2) trodAll_mk0))), rfl, bel.frame _, fun h => by cases h⟩
/-- ParseShifts: it answers true. -/
theorem shifts_holds : Rows.ParseShiftsSaid :=
  OpenClaim.holds_of_wide 7 Tryz.f7 rfl rfl rfl rfl rfl rfl rfl ⟨rfl, rfl, rfl, rfl, rfl⟩ rfl rfl rfl rfl rfl (by kernel_rfl) Tryz.func7 (by kernel_rfl)
    (of_decide_eq_true (by kernel_rfl)) (by unfold Func.isWrapper; first | (rw [if_pos (by decide +kernel)]; kernel_rfl) | (rw [if_neg (by decide +kernel)]; exact ⟨rfl, rfl⟩))
    (fun os started H enc _ => shifts_lifted os started H enc)
#print axioms shifts_holds
end Go.Proofs.YtpomkhcobpihmaaGreat
