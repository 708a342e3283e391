/- PredictBack: what was done is undone as it was, of each shape. No condition on the input. -/
import Derived.Test.YtagkjndiifcekaaSh9
import Derived.Test.YtagkjndiifcekaaBk9
import Derived.Test.YtagkjndiifcekaaMd7
import Derived.StillTailTactics
import Derived.Deep.RegionHeld3
namespace Go.Proofs.Ytagkjndiifcekaa
open Go.ChangeShapes Go.WideShapes Go.ChangeAt Go.RowKit Go.Deep
set_option linter.unusedVariables false
set_option maxRecDepth 100000

set_option maxHeartbeats 8000000 in
theorem back_walk (P C K : Int) (A : Option Addr) (n c : Nat) (zs : List Int) (r0 : Int) (w : World) (hb : Byt w w.heap.size A n c zs) (hn : n ≤ 9223372036854775807) (l0 : 0 ≤ r0) (h0 : r0 ≤ 255) :
    Calls Try.prog 5 #[shV P C K, .slice A n c, .int .u8 r0] w fun e w' => e = .returned (.bool true) ∧ Below w.heap.size w w' := by
  have HLEN := Lib.hid hb.len
  have HRG := Lib.hid hb.rng
  have HB := Lib.hid (fun W (hW : Below w.heap.size w W) => (hb.below hW (Nat.le_refl _)).more hW.size)
  have HW1 := Lib.hid ((Below.refl w.heap.size w).alloc (Nat.le_refl _) (.cells #[.int .i64 P, .int .i64 C, .int .i64 K] 30))
  have HSH := Lib.hid (ShB.new w P C K)
  obtain ⟨W1, hW1⟩ : ∃ W1, w.alloc (.cells #[.int .i64 P, .int .i64 C, .int .i64 K] 30) = W1 := ⟨_, rfl⟩
  have hsz : W1.heap.size = w.heap.size + 1 := by rw [← hW1]; simp
  rw [hW1] at HW1 HSH
  have HSZ := Lib.hid hsz
  have HAW := Lib.hid (awake_any W1)
  have HMY := Lib.hid (fun W => mayC P C K W)
  clear hb hsz
  have HSP : Hid (∀ W, Calls Try.prog 13 #[shV P C K] W fun e w' => e = .returned (shV P C K) ∧ Below W.heap.size W w') := Lib.hid (fun W => shapeC P C K W)
  rcases hmay : mayZ P C K with _ | _
  · rw [hmay] at HMY
    clear hmay
    go_enter Try.func5, Try.ntmps5
    go_wp2_with (first
      | (go_at_call 8; refine HAW.out.mono ?_; (rintro r w0 ⟨rfl, hb0⟩); have HC := Lib.hid hb0; have hs := HSH.out.below hb0 (by have := HSZ.out; omega); have k0 := hs.c0; have k1 := hs.c1; have k2 := hs.c2; clear hb0 hs)
      | (go_at_call 16; refine (HMY.out _).mono ?_; (rintro r w0 ⟨rfl, hb0⟩); have HC := Lib.hid (HC.out.trans (hb0.mono HC.out.size)); clear hb0))
    go_ret
    exact ⟨rfl, HW1.out.trans (HC.out.mono HW1.out.size)⟩
  · obtain ⟨hP, cc, kk, nn, rfl, rfl, hc1, hc4, hk1, hk4, hnn, hn1, hn2, hCK, hCn⟩ := may_parts hmay
    have HMT := Lib.hid hmay
    have HCK := Lib.hid hCK
    rw [hmay] at HMY
    have eNN : (cc : Int) * (kk : Int) = nn := by rw [← hnn]; simp
    have wNN : IntKind.i64.wrap (nn : Int) = nn := IntWalk.i64_in _ (by omega)
    clear hmay
    by_cases hbig : 200 < nn
    · have hbg : (nn : Int) > 200 := by omega
      go_enter Try.func5, Try.ntmps5
      go_wp2_with (first
        | (go_at_call 8; refine HAW.out.mono ?_; (rintro r w0 ⟨rfl, hb0⟩); have HC := Lib.hid hb0; have hs := HSH.out.below hb0 (by have := HSZ.out; omega); have k0 := hs.c0; have k1 := hs.c1; have k2 := hs.c2; clear hb0 hs)
        | (go_at_call 16; refine (HMY.out _).mono ?_; (rintro r w0 ⟨rfl, hb0⟩); have HC := Lib.hid (HC.out.trans (hb0.mono HC.out.size)); have hs := HSH.out.below HC.out (by have := HSZ.out; omega); have k0 := hs.c0; have k1 := hs.c1; have k2 := hs.c2; clear hb0 hs))
      go_ret
      exact ⟨rfl, HW1.out.trans (HC.out.mono HW1.out.size)⟩
    · have hbg : ¬ (nn : Int) > 200 := by omega
      obtain ⟨q, hq⟩ : ∃ q : Nat, r0 % 5 = q := ⟨(r0 % 5).toNat, by omega⟩
      have hq2 : r0.tmod 5 = q := by rw [Int.tmod_eq_emod_of_nonneg l0]; exact hq
      have hqb : q < 5 := by omega
      have hwx : IntKind.i64.wrap r0 = r0 := IntWalk.i64_in _ (by omega)
      have hwx2 : wrap64 r0 = r0 := by unfold wrap64; omega
      obtain ⟨M, hM⟩ : ∃ M, nn * q = M := ⟨_, rfl⟩
      have HMM := Lib.hid hM
      have hMb : M ≤ 800 := by
        rw [← hM]
        exact Nat.le_trans (Nat.mul_le_mul (show nn ≤ 200 by omega) (show q ≤ 4 by omega)) (by decide)
      have eM : (nn : Int) * (q : Int) = M := by rw [← hM]; simp
      have wM : IntKind.i64.wrap (M : Int) = M := IntWalk.i64_in _ (by omega)
      have wq : IntKind.i64.wrap (q : Int) = q := IntWalk.i64_in _ (by omega)
      have HMK := Lib.hid (fun W => make_bytes M M W (Nat.le_refl _) (by omega))
      have hmk := fun W => HMK.out W
      clear HMK hq
      go_enter Try.func5, Try.ntmps5
      go_upto_region 7 with (first
        | (go_at_call 8; refine HAW.out.mono ?_; (rintro r w0 ⟨rfl, hb0⟩); have HC := Lib.hid hb0; have hs := HSH.out.below hb0 (by have := HSZ.out; omega); have k0 := hs.c0; have k1 := hs.c1; have k2 := hs.c2; clear hb0 hs)
        | (go_at_call 16; refine (HMY.out _).mono ?_; (rintro r w5 ⟨rfl, hb0⟩); have HC := Lib.hid (HC.out.trans (hb0.mono HC.out.size)); have hs := HSH.out.below HC.out (by have := HSZ.out; omega); have k0 := hs.c0; have k1 := hs.c1; have k2 := hs.c2; clear hb0 hs))
      obtain ⟨g, hg⟩ : ∃ g, w5.heap.size = g := ⟨_, rfl⟩
      have HR0 : Hid ((w5.alloc (.cells (u8s (List.replicate M 0)).toArray 5)).heap[g]? = some (.cells (u8s (List.replicate M 0)).toArray 5 (0, 0))) := Lib.hid (by rw [← hg]; exact heap_alloc_new w5 _)
      have HB1 := Lib.hid (HC.out.alloc HC.out.size (.cells (u8s (List.replicate M 0)).toArray 5))
      have HWG : Hid (W1.heap.size ≤ g) := Lib.hid (by rw [← hg]; exact HC.out.size)
      obtain ⟨W2, hW2⟩ : ∃ W2, w5.alloc (.cells (u8s (List.replicate M 0)).toArray 5) = W2 := ⟨_, rfl⟩
      rw [hW2] at HR0 HB1
      rw [hg, hW2]
      clear hg hW2 hmk HAW
      have hMi : (M : Int) ≤ 800 := by omega
      go_wp2_with fail
      go_loopw [9] (fun iv wr => ∃ (i : Nat) (X : List Int), i ≤ M ∧ iv = .int .i64 i ∧ Hid (wr.heap[g]? = some (.cells (u8s X).toArray 5 (0, 0))) ∧ Hid (X.length = M ∧ ∀ z ∈ X, 0 ≤ z ∧ z < 256) ∧ Hid (Below W1.heap.size W1 wr)) (fun iv _ => M - (intOf iv).toNat)
      case atStart => exact ⟨0, List.replicate M 0, Nat.zero_le _, rfl, HR0, Lib.hid ⟨by simp, fun z hz => by rw [List.eq_of_mem_replicate hz]; omega⟩, HB1⟩
      case round =>
        obtain ⟨i, X, hi, rfl, HR, HX, HBE⟩ := hrel
        by_cases hlt : i < M ∧ 0 < n
        · obtain ⟨hlt, hn0⟩ := hlt
          have hby := own_byt wr g M X HR.out HX.out.1 HX.out.2
          obtain ⟨b', o', e, _, hc⟩ := hby.cell (by omega)
          injection e with e
          injection e with e1 e2
          subst e1 e2
          have ki := hc i hlt
          rw [Nat.zero_add] at ki
          have fi := own_fr wr g i X HR.out
          obtain ⟨b, o, rfl, hbl, hcl⟩ := (HB.out wr (HW1.out.trans (HBE.out.mono HW1.out.size))).cell hn0
          obtain ⟨j, hj⟩ : ∃ j, i % n = j := ⟨_, rfl⟩
          have hjn : j < n := by rw [← hj]; exact Nat.mod_lt _ hn0
          have ci := hcl j hjn
          obtain ⟨x, hx⟩ : ∃ x, zs.getD j 0 = x := ⟨_, rfl⟩
          rw [hx] at ci
          have em1 : (i : Int).tmod n = j := by rw [Int.tmod_eq_emod_of_nonneg (by omega)]; omega
          obtain ⟨dv, hdv⟩ : ∃ dv, (i : Int).tdiv n = dv := ⟨_, rfl⟩
          have em2 : (i : Int) % n = j := by omega
          obtain ⟨dw, hdw⟩ : ∃ dw, IntKind.i64.wrap dv = dw := ⟨_, rfl⟩
          have hni : ¬ (n : Int) = 0 := by omega
          have hnb : ((n : Int) == 0) = false := beq_eq_false_iff_ne.2 hni
          have hnm : ¬ (n : Int) = -1 := by omega
          have wj : IntKind.i64.wrap (j : Int) = j := IntWalk.i64_in _ (by omega)
          have hnp : (n : Int) > 0 := by omega
          have hli : (i : Int) < M := by omega
          have hji : (j : Int) < n := by omega
          obtain ⟨y, hy⟩ : ∃ y, IntKind.u8.wrap dw = y := ⟨_, rfl⟩
          obtain ⟨V, hV⟩ : ∃ V, IntKind.u8.wrap (x + y) = V := ⟨_, rfl⟩
          have HVR : Hid (0 ≤ V ∧ V < 256) := Lib.hid (by rw [← hV, IntKind.wrap_u8]; omega)
          clear hby hc hj hx hcl
          go_upto_region 10 with fail
          go_region
          go_wp2_with fail
          go_roundw
          case rel => exact ⟨i + 1, X.set i V, hlt, by go_num, Lib.hid (own_set wr g i X V HR.out), Lib.hid ⟨by rw [List.length_set]; exact HX.out.1, set_rng X i V HX.out.2 HVR.out⟩, Lib.hid (show Below W1.heap.size W1 (World.drew _) from (HBE.out.trans ((Only.refl g wr).set_ i _ |>.belowB HWG.out (Nat.le_of_lt (row_lt wr g _ HR.out)))).drew)⟩
          case measure => simp [intOf]; omega
        · obtain ⟨E, hd, hu, hl⟩ := undZ_doZ P cc kk X HMT.out HX.out.2 q (by rw [HX.out.1, HCK.out]; exact HMM.out)
          rw [HX.out.1] at hl
          have hby := own_byt wr g M X HR.out HX.out.1 HX.out.2
          have HBY := Lib.hid (fun W (hW : Below wr.heap.size wr W) => (hby.below hW (Nat.le_refl _)).more hW.size)
          have HXL := Lib.hid HX.out.1
          have HD := Lib.hid (Below.refl wr.heap.size wr)
          obtain ⟨L, hL⟩ : ∃ L, E.length = L := ⟨_, rfl⟩
          rw [hL] at hl
          have hLb : L ≤ 900 := by
            rw [hl]
            split <;> omega
          have HEL := Lib.hid hL
          have HEN := Lib.hid (fun W (hW : Byt W W.heap.size (some ⟨g, 0, none⟩) M M X) => pEncode P cc kk (some ⟨g, 0, none⟩) M M X W hW (by omega) (E, 0) hd)
          have HDE := Lib.hid (fun W A1 c1 (hW : Byt W W.heap.size A1 L c1 E) => pDecode P cc kk A1 L c1 E W hW (by omega) (X, 0) hu)
          have hs := HSH.out.below HBE.out (by have := HSZ.out; omega)
          have k0 := hs.c0
          have k1 := hs.c1
          have k2 := hs.c2
          clear hd hu hby hL hs
          have hway : ¬ (i < M) ∨ (i < M ∧ n = 0) := by omega
          by_cases g10 : 10 ≤ P
          · have gP : P ≥ (10 : Int) := g10
            rw [if_pos g10] at hl
            have wL : IntKind.i64.wrap ((M : Int) + (q : Int)) = (L : Int) := by rw [hl]; exact IntWalk.i64_in _ (by omega)
            rcases hway with hi2 | ⟨hi2, hn0⟩
            · have hli : ¬ (i : Int) < M := by omega
              clear hlt hl hi2
              go_wp2_with (first
                | (go_at_call 13; refine (HSP.out _).mono ?_; (rintro r w5 ⟨rfl, hb5⟩); have HC6 := Lib.hid (HC6.out.trans (hb5.mono HC6.out.size)); have HD := Lib.hid (HD.out.trans (hb5.mono HD.out.size)); have hs := HSH.out.below (HBE.out.trans (HD.out.mono HBE.out.size)) (by have := HSZ.out; omega); have k0 := hs.c0; have k1 := hs.c1; have k2 := hs.c2; clear hb5 hs)
                | (go_at_call 13; refine (HSP.out _).mono ?_; (rintro r w5 ⟨rfl, hb5⟩); have HD := Lib.hid (HD.out.trans (hb5.mono HD.out.size)); have hs := HSH.out.below (HBE.out.trans (HD.out.mono HBE.out.size)) (by have := HSZ.out; omega); have k0 := hs.c0; have k1 := hs.c1; have k2 := hs.c2; clear hb5 hs)
                | (go_at_call 10; refine (HEN.out _ (HBY.out _ HD.out)).mono ?_; intro r w6 h6; obtain ⟨A6, c6, rfl, hy6, hb6⟩ := h6.at9 HEL.out; clear h6; have HY6 := Lib.hid (fun W (hW : Below w6.heap.size w6 W) => (hy6.below hW (Nat.le_refl _)).more hW.size); have HC6 := Lib.hid (Below.refl w6.heap.size w6); have HD := Lib.hid (HD.out.trans (hb6.mono HD.out.size)); have hs := HSH.out.below (HBE.out.trans (HD.out.mono HBE.out.size)) (by have := HSZ.out; omega); have k0 := hs.c0; have k1 := hs.c1; have k2 := hs.c2; clear hy6 hb6 hs)
                | (go_at_call 9; refine (HDE.out _ _ _ (HY6.out _ HC6.out)).mono ?_; intro r w7 h7; obtain ⟨A7, c7, rfl, hy7, hb7⟩ := h7.at9 HXL.out; clear h7; have HD := Lib.hid (HD.out.trans (hb7.mono HD.out.size)); have HE1 := Lib.hid (refSame_yes A7 (some ⟨g, 0, none⟩) M c7 _ M _ X w7 hy7 (HBY.out w7 HD.out) (by omega)); have hs := HSH.out.below (HBE.out.trans (HD.out.mono HBE.out.size)) (by have := HSZ.out; omega); have k0 := hs.c0; have k1 := hs.c1; have k2 := hs.c2; clear hy7 hb7 hs)
                | (go_at_call 11; refine HE1.out.mono ?_; (rintro r w8 ⟨rfl, q8, rfl⟩)))
              go_ret
              exact ⟨rfl, below_drewN (HW1.out.trans ((HBE.out.trans (HD.out.mono HBE.out.size)).mono HW1.out.size)) _⟩
            · have hli : (i : Int) < M := by omega
              have hnp : ¬ (n : Int) > 0 := by omega
              clear hlt hl hi2 hn0
              go_wp2_with (first
                | (go_at_call 13; refine (HSP.out _).mono ?_; (rintro r w5 ⟨rfl, hb5⟩); have HC6 := Lib.hid (HC6.out.trans (hb5.mono HC6.out.size)); have HD := Lib.hid (HD.out.trans (hb5.mono HD.out.size)); have hs := HSH.out.below (HBE.out.trans (HD.out.mono HBE.out.size)) (by have := HSZ.out; omega); have k0 := hs.c0; have k1 := hs.c1; have k2 := hs.c2; clear hb5 hs)
                | (go_at_call 13; refine (HSP.out _).mono ?_; (rintro r w5 ⟨rfl, hb5⟩); have HD := Lib.hid (HD.out.trans (hb5.mono HD.out.size)); have hs := HSH.out.below (HBE.out.trans (HD.out.mono HBE.out.size)) (by have := HSZ.out; omega); have k0 := hs.c0; have k1 := hs.c1; have k2 := hs.c2; clear hb5 hs)
                | (go_at_call 10; refine (HEN.out _ (HBY.out _ HD.out)).mono ?_; intro r w6 h6; obtain ⟨A6, c6, rfl, hy6, hb6⟩ := h6.at9 HEL.out; clear h6; have HY6 := Lib.hid (fun W (hW : Below w6.heap.size w6 W) => (hy6.below hW (Nat.le_refl _)).more hW.size); have HC6 := Lib.hid (Below.refl w6.heap.size w6); have HD := Lib.hid (HD.out.trans (hb6.mono HD.out.size)); have hs := HSH.out.below (HBE.out.trans (HD.out.mono HBE.out.size)) (by have := HSZ.out; omega); have k0 := hs.c0; have k1 := hs.c1; have k2 := hs.c2; clear hy6 hb6 hs)
                | (go_at_call 9; refine (HDE.out _ _ _ (HY6.out _ HC6.out)).mono ?_; intro r w7 h7; obtain ⟨A7, c7, rfl, hy7, hb7⟩ := h7.at9 HXL.out; clear h7; have HD := Lib.hid (HD.out.trans (hb7.mono HD.out.size)); have HE1 := Lib.hid (refSame_yes A7 (some ⟨g, 0, none⟩) M c7 _ M _ X w7 hy7 (HBY.out w7 HD.out) (by omega)); have hs := HSH.out.below (HBE.out.trans (HD.out.mono HBE.out.size)) (by have := HSZ.out; omega); have k0 := hs.c0; have k1 := hs.c1; have k2 := hs.c2; clear hy7 hb7 hs)
                | (go_at_call 11; refine HE1.out.mono ?_; (rintro r w8 ⟨rfl, q8, rfl⟩)))
              go_ret
              exact ⟨rfl, below_drewN (HW1.out.trans ((HBE.out.trans (HD.out.mono HBE.out.size)).mono HW1.out.size)) _⟩
          · have gP : ¬ P ≥ (10 : Int) := g10
            rw [if_neg g10, Nat.add_zero] at hl
            obtain rfl := hl.symm
            rcases hway with hi2 | ⟨hi2, hn0⟩
            · have hli : ¬ (i : Int) < M := by omega
              clear hlt hi2
              go_wp2_with (first
                | (go_at_call 13; refine (HSP.out _).mono ?_; (rintro r w5 ⟨rfl, hb5⟩); have HC6 := Lib.hid (HC6.out.trans (hb5.mono HC6.out.size)); have HD := Lib.hid (HD.out.trans (hb5.mono HD.out.size)); have hs := HSH.out.below (HBE.out.trans (HD.out.mono HBE.out.size)) (by have := HSZ.out; omega); have k0 := hs.c0; have k1 := hs.c1; have k2 := hs.c2; clear hb5 hs)
                | (go_at_call 13; refine (HSP.out _).mono ?_; (rintro r w5 ⟨rfl, hb5⟩); have HD := Lib.hid (HD.out.trans (hb5.mono HD.out.size)); have hs := HSH.out.below (HBE.out.trans (HD.out.mono HBE.out.size)) (by have := HSZ.out; omega); have k0 := hs.c0; have k1 := hs.c1; have k2 := hs.c2; clear hb5 hs)
                | (go_at_call 10; refine (HEN.out _ (HBY.out _ HD.out)).mono ?_; intro r w6 h6; obtain ⟨A6, c6, rfl, hy6, hb6⟩ := h6.at9 HEL.out; clear h6; have HY6 := Lib.hid (fun W (hW : Below w6.heap.size w6 W) => (hy6.below hW (Nat.le_refl _)).more hW.size); have HC6 := Lib.hid (Below.refl w6.heap.size w6); have HD := Lib.hid (HD.out.trans (hb6.mono HD.out.size)); have hs := HSH.out.below (HBE.out.trans (HD.out.mono HBE.out.size)) (by have := HSZ.out; omega); have k0 := hs.c0; have k1 := hs.c1; have k2 := hs.c2; clear hy6 hb6 hs)
                | (go_at_call 9; refine (HDE.out _ _ _ (HY6.out _ HC6.out)).mono ?_; intro r w7 h7; obtain ⟨A7, c7, rfl, hy7, hb7⟩ := h7.at9 HXL.out; clear h7; have HD := Lib.hid (HD.out.trans (hb7.mono HD.out.size)); have HE1 := Lib.hid (refSame_yes A7 (some ⟨g, 0, none⟩) M c7 _ M _ X w7 hy7 (HBY.out w7 HD.out) (by omega)); have hs := HSH.out.below (HBE.out.trans (HD.out.mono HBE.out.size)) (by have := HSZ.out; omega); have k0 := hs.c0; have k1 := hs.c1; have k2 := hs.c2; clear hy7 hb7 hs)
                | (go_at_call 11; refine HE1.out.mono ?_; (rintro r w8 ⟨rfl, q8, rfl⟩)))
              go_ret
              exact ⟨rfl, below_drewN (HW1.out.trans ((HBE.out.trans (HD.out.mono HBE.out.size)).mono HW1.out.size)) _⟩
            · have hli : (i : Int) < M := by omega
              have hnp : ¬ (n : Int) > 0 := by omega
              clear hlt hi2 hn0
              go_wp2_with (first
                | (go_at_call 13; refine (HSP.out _).mono ?_; (rintro r w5 ⟨rfl, hb5⟩); have HC6 := Lib.hid (HC6.out.trans (hb5.mono HC6.out.size)); have HD := Lib.hid (HD.out.trans (hb5.mono HD.out.size)); have hs := HSH.out.below (HBE.out.trans (HD.out.mono HBE.out.size)) (by have := HSZ.out; omega); have k0 := hs.c0; have k1 := hs.c1; have k2 := hs.c2; clear hb5 hs)
                | (go_at_call 13; refine (HSP.out _).mono ?_; (rintro r w5 ⟨rfl, hb5⟩); have HD := Lib.hid (HD.out.trans (hb5.mono HD.out.size)); have hs := HSH.out.below (HBE.out.trans (HD.out.mono HBE.out.size)) (by have := HSZ.out; omega); have k0 := hs.c0; have k1 := hs.c1; have k2 := hs.c2; clear hb5 hs)
                | (go_at_call 10; refine (HEN.out _ (HBY.out _ HD.out)).mono ?_; intro r w6 h6; obtain ⟨A6, c6, rfl, hy6, hb6⟩ := h6.at9 HEL.out; clear h6; have HY6 := Lib.hid (fun W (hW : Below w6.heap.size w6 W) => (hy6.below hW (Nat.le_refl _)).more hW.size); have HC6 := Lib.hid (Below.refl w6.heap.size w6); have HD := Lib.hid (HD.out.trans (hb6.mono HD.out.size)); have hs := HSH.out.below (HBE.out.trans (HD.out.mono HBE.out.size)) (by have := HSZ.out; omega); have k0 := hs.c0; have k1 := hs.c1; have k2 := hs.c2; clear hy6 hb6 hs)
                | (go_at_call 9; refine (HDE.out _ _ _ (HY6.out _ HC6.out)).mono ?_; intro r w7 h7; obtain ⟨A7, c7, rfl, hy7, hb7⟩ := h7.at9 HXL.out; clear h7; have HD := Lib.hid (HD.out.trans (hb7.mono HD.out.size)); have HE1 := Lib.hid (refSame_yes A7 (some ⟨g, 0, none⟩) M c7 _ M _ X w7 hy7 (HBY.out w7 HD.out) (by omega)); have hs := HSH.out.below (HBE.out.trans (HD.out.mono HBE.out.size)) (by have := HSZ.out; omega); have k0 := hs.c0; have k1 := hs.c1; have k2 := hs.c2; clear hy7 hb7 hs)
                | (go_at_call 11; refine HE1.out.mono ?_; (rintro r w8 ⟨rfl, q8, rfl⟩)))
              go_ret
              exact ⟨rfl, below_drewN (HW1.out.trans ((HBE.out.trans (HD.out.mono HBE.out.size)).mono HW1.out.size)) _⟩
set_option maxRecDepth 100000 in
theorem back_lifted (os : Os) (started : os.Started) (H : Type) (enc : TypeId × Value → H) :
    ReturnsInHanded {} Try.checked os 5 .any (Rows.predictBackSpec.pre6 enc Try.prog Try.f5 Rows.predictBackRow.domain false) (Rows.predictBackSpec.post enc Try.prog Try.f5 false true false false) := by
  refine returnsInHanded_of_change (C := Try.checked) own started (by kernel_rfl) Try.func5
    (ChangeSpec.witness6 (enc := enc) (C := Try.checked) false ⟨#[], #[.agg #[.int .i64 0, .int .i64 0, .int .i64 0], .slice none 0 0, .int .u8 0], []⟩ 8 (by kernel_rfl) (by kernel_rfl) (by kernel_rfl) (by kernel_rfl)) ?_
  intro W base args ds gs before hval0 hW hcnd _
  have hval : ∀ (j : Nat) t v, Try.f5.params[j]? = some t → args[j]? = some v → Value.okWide Try.prog W .any base t v := hval0
  have hW' := hW
  obtain ⟨p, q, hA0, hV, rfl, hfz, hnd⟩ := hW
  have hA : DataW.TrodAll enc Try.prog W 0 (fun _ => true) true Try.f5.params.toList args.toList ds p := hA0
  rw [Try.params5] at hA hval
  obtain ⟨v0, vs0, d0, ds0, p0, q0, hargs, rfl, rfl, h0, r0⟩ := trodAll_cons hA
  obtain ⟨v1, vs1, d1, ds1, p1, q1, rfl, rfl, rfl, h1, r1⟩ := trodAll_cons r0
  obtain ⟨v2, vs2, d2, ds2, p2, q2, rfl, rfl, rfl, h2, r2⟩ := trodAll_cons r1
  obtain ⟨rfl, rfl, rfl⟩ := trodAll_nil r2
  obtain rfl : args = #[v0, v1, v2] := by cases args; simp_all
  obtain ⟨rfl, rfl⟩ := trodVars_none hV
  obtain ⟨cs0, rfl, hcs0⟩ := okWide_struct Try.underlying30 (hval 0 30 v0 rfl rfl)
  obtain ⟨P, C, K, rfl⟩ := open_shape h0 hcs0
  have lt0 : ∀ x ∈ p0, x.block < W.heap.size := by obtain ⟨m, hm⟩ := h0; exact DataW.trod_lt m _ _ _ hm
  obtain ⟨a1, len1, cap1, rfl⟩ := okWide_slice Try.underlying23 (hval 1 23 v1 rfl rfl)
  obtain ⟨zs1, hz1, hcm1⟩ := open_bytes h1 (fun _ => rfl)
  have lt1 : ∀ x ∈ p1, x.block < W.heap.size := by obtain ⟨m, hm⟩ := h1; exact DataW.trod_lt m _ _ _ hm
  obtain ⟨x2, rfl⟩ := okWide_int Try.underlying5 (hval 2 5 v2 rfl rfl)
  obtain ⟨lo2, hi2⟩ := open_intk Try.underlying5 h2
  rw [show IntKind.u8.min = 0 by decide] at lo2
  rw [show IntKind.u8.max = 255 by decide] at hi2
  have lt2 : ∀ x ∈ p2, x.block < W.heap.size := by obtain ⟨m, hm⟩ := h2; exact DataW.trod_lt m _ _ _ hm
  have hmx : maxLen = 9223372036854775807 := by decide
  clear hA0 hval0
  refine (back_walk P C K a1 len1 cap1 zs1 x2 W hz1 (by have := hz1.cap; omega) lo2 hi2).mono fun e W' ⟨he, bel⟩ => ?_
  subst he
  exact ⟨_, rfl, _, _, _, [], _, [], hW', trodAll_mk1 (shut_bool Try.underlying4 _), (trodAll_cons_mk (Below.trod laidOut (by kernel_rfl) (of_decide_eq_true (by kernel_rfl)) h0 bel lt0) (trodAll_cons_mk (Below.trod laidOut (by kernel_rfl) (of_decide_eq_true (by kernel_rfl)) h1 bel lt1) (trodAll_cons_mk (Below.trod laidOut (by kernel_rfl) (of_decide_eq_true (by kernel_rfl)) h2 bel lt2) trodAll_mk0))), rfl, bel.frame _, fun h => by cases h⟩

/-- PredictBack: it answers true. -/
theorem back_holds : Rows.PredictBackSaid :=
  OpenClaim.holds_of_wide 5 Try.f5 rfl rfl rfl rfl rfl rfl rfl ⟨rfl, rfl, rfl, rfl, rfl⟩ rfl rfl rfl rfl rfl (by kernel_rfl) Try.func5 (by kernel_rfl)
    (of_decide_eq_true (by kernel_rfl)) (by unfold Func.isWrapper; first | (rw [if_pos (by decide +kernel)]; kernel_rfl) | (rw [if_neg (by decide +kernel)]; exact ⟨rfl, rfl⟩))
    (fun os started H enc _ => back_lifted os started H enc)
#print axioms back_holds

end Go.Proofs.Ytagkjndiifcekaa
