/- LzwBack: what was written is read as it was, whatever stands behind it; one byte less of room is a limit, cut it is too short. No condition on the input. -/
import Derived.Test.YtpnnejedfccckaaLaw8Do
namespace Go.Proofs.Ytpnnejedfccckaa
open Go.ChangeShapes Go.WideShapes Go.ChangeAt Go.RowKit Go.Deep
set_option linter.unusedVariables false
set_option maxRecDepth 100000

theorem lzB_min (zs : List Int) : ∀ f a TE reads first, 9 ≤ (lzB zs f a TE reads first).length
  | 0, a, TE, reads, first => by have := wdZ_bd reads; rw [lzB, hiB_len]; omega
  | f + 1, a, TE, reads, first => by
    have := wdZ_bd reads
    rw [lzB]
    split
    · rw [List.length_append, hiB_len]; omega
    · rw [hiB_len]; omega
theorem lzBits_min (zs : List Int) : 18 ≤ (lzBits zs).length := by
  have := lzB_min zs zs.length 0 [] 258 true
  rw [lzBits, List.length_append, hiB_len]; omega
set_option maxHeartbeats 4000000 in
theorem back_walk (A : Option Addr) (n c : Nat) (zs : List Int) (A2 : Option Addr) (n2 c2 : Nat) (ms : List Int) (w : World)
    (hb : Byt w w.heap.size A n c zs) (hn : n ≤ 9223372036854775807) (hm : Byt w w.heap.size A2 n2 c2 ms) (hn2 : n2 ≤ 9223372036854775807) :
    Calls Try.prog 5 #[.slice A n c, .slice A2 n2 c2] w fun e w' => e = .returned (.bool true) ∧ Below w.heap.size w w' := by
  have HAW := Lib.hid (awake_any w)
  by_cases hok : n ≤ 800 ∧ n2 ≤ 30
  · obtain ⟨ho0, ho2⟩ := hok
    have HB := Lib.hid (fun W (hW : Below w.heap.size w W) => (hb.below hW (Nat.le_refl _)).more hW.size)
    have HM := Lib.hid (fun W (hW : Below w.heap.size w W) => hm.below hW (Nat.le_refl _))
    have hlen := hb.len
    have HLEN := Lib.hid hlen
    have hrg := hb.rng
    have hn0i : ¬ (800 : Int) < n := by omega
    have hn2i : ¬ (30 : Int) < n2 := by omega
    have hbl := lzBits_len zs
    have hel := lzEnc_len zs
    have hbm : 18 ≤ (lzBits zs).length := lzBits_min zs
    have H3 := Lib.hid (fun W (hW : Byt W W.heap.size A n c zs) => pEncode A n c zs W hW (by omega))
    have hr1 : lzDec (max (n : Int) 0).toNat (lzEnc zs ++ ms) = (zs, 0) := by rw [lz_back _ _ _ hrg, if_pos (by omega)]
    have hr2 : 0 < n → lzDec (max ((n : Int) - 1) 0).toNat (lzEnc zs) = ([], 7) := fun h => by
      have := lz_back (max ((n : Int) - 1) 0).toNat zs [] hrg
      rw [List.append_nil, if_neg (by omega)] at this
      exact this
    have hr3 : lzDec (max (n : Int) 0).toNat ((lzEnc zs).take ((lzEnc zs).length - 2)) = ([], 2) := lz_cut _ zs hrg (by omega) _ (by omega)
    obtain ⟨E, hE⟩ : ∃ E, lzEnc zs = E := ⟨_, rfl⟩
    rw [hE] at H3 hel hr1 hr2 hr3
    obtain ⟨L, hL⟩ : ∃ L, E.length = L := ⟨_, rfl⟩
    rw [hL] at H3 hel hr3
    have hLb : 3 ≤ L ∧ L ≤ 3000 := by omega
    have HR1 := Lib.hid hr1
    have HR2 := Lib.hid hr2
    have HR3 := Lib.hid hr3
    obtain ⟨K, hK⟩ : ∃ K, L - 2 = K := ⟨_, rfl⟩
    have hl1j : (L : Int) - 2 = K := by omega
    have HK := Lib.hid hK
    have HLE := Lib.hid hL
    have hKw : IntKind.i64.wrap (K : Int) = K := IntWalk.i64_in _ (by omega)
    have hn63 : n ≤ 9223372036854775807 := hn
    clear hb hm hlen hrg hE hL hr1 hr2 hr3 hK hbl hel hbm
    go_enter Try.func5, Try.ntmps5
    go_upto_region 9 with (first
      | (go_at_call 8; refine HAW.out.mono ?_; (rintro r w0 ⟨rfl, hb0⟩); have HB0 := Lib.hid hb0; clear hb0)
      | (go_at_call 11; refine (H3.out _ (HB.out _ HB0.out)).mono ?_; (rintro r w1 ⟨v1, rfl, hm1, hb1⟩); obtain ⟨A1, c1, rfl, hy1⟩ := hm1.byt; have HY1 := Lib.hid hy1; have HB1 := Lib.hid (HB0.out.trans (hb1.mono HB0.out.size)); have HCP := Lib.hid (refCopy A1 L c1 E w1 hy1 (by omega)); clear hm1 hb1 hy1)
      | (go_at_call 14; refine HCP.out.mono ?_; (rintro r w2 ⟨v2, rfl, hm2, hb2⟩); have HB2 := Lib.hid (HB1.out.trans (hb2.mono HB1.out.size)); have HC2 := Lib.hid hb2; have HA2 := Lib.hid (hm2.appendT (HM.out _ HB2.out) 23 (by omega) hb2.size); obtain ⟨A2', c2', rfl, _⟩ := hm2.byt; clear hm2 hb2)
      | (at_builtin; obtain ⟨v3, w3, hrun, hm3, hb3, _⟩ := HA2.out; obtain ⟨A3, c3, rfl, hy3⟩ := hm3.byt; refine Lib.wpList_append_run_sl _ rfl (.tmp 26) (.tmp 27) 23 rfl _ _ rfl rfl hrun ?_; clear hrun; have HY3 := Lib.hid hy3; have HC3 := Lib.hid (HC2.out.trans hb3); have HB3 := Lib.hid (HB1.out.trans (HC3.out.mono HB1.out.size)); have HD3 := Lib.hid (pDecode A3 (L + n2) c3 n (E ++ ms) w3 hy3 (by omega) (by omega) (by omega) _ HR1.out); clear hm3 hb3 hy3)
      | (go_at_call 9; refine HD3.out.mono ?_; intro r w4 hr4; obtain ⟨A4, c4, rfl, hy4, hb4⟩ := hr4.at8 HLEN.out; clear hr4 HD3; have HC4 := Lib.hid (HC3.out.trans (hb4.mono HC3.out.size)); have HB4 := Lib.hid (HB1.out.trans (HC4.out.mono HB1.out.size)); have HY4 := Lib.hid ((HY1.out.below HC4.out (Nat.le_refl _)).more HC4.out.size); have HE1 := Lib.hid (refSame_yes A4 A n c4 _ c _ zs w4 hy4 (HB.out w4 HB4.out) hn63); clear hy4 hb4)
      | (go_at_call 10; with_reducible refine HE1.out.mono ?_; (rintro r w5 ⟨rfl, q5', rfl⟩)))
    have hsl : ∀ W, (Instr.slice 23 (.slice A1 L c1) none (some (.int .i64 (K : Int))) none).run Try.prog W = .ok (.slice (cutA A1 c1 0) K c1) W := fun W => run_cut0 (P := Try.prog) W 23 5 Try.underlying23 (fun w => by kernel_rfl) A1 L c1 K (by have := HY1.out.cap; have := HK.out; omega)
    have HQ2 := Lib.hid (fun W (hW : Byt W W.heap.size A1 L c1 E) (h0 : 0 < n) => pDecode _ _ _ ((n : Int) - 1) E W hW (by omega) (by omega) (by omega) _ (HR2.out h0))
    have HQ3 := Lib.hid (fun W (hW : Byt W W.heap.size A1 L c1 E) => by
      have hY := hW.first (m := K) (by have := HK.out; omega)
      rw [← HK.out] at hY
      have := pDecode _ (L - 2) _ n _ W hY (by omega) (by omega) (by omega) _ HR3.out
      rw [HK.out] at this
      exact this)
    have e0 : 0 < n → IntKind.i64.wrap ((n : Int) - 1) = (n : Int) - 1 := fun h => IntWalk.i64_in _ (by omega)
    go_upto_region 10 with (go_at_call 9; (with_reducible refine (HQ3.out _ (HY4.out.drewN _)).mono ?_); intro r w6 hr6; obtain ⟨A6, c6, rfl, hb6⟩ := hr6.bad8; clear hr6; have HB6 := Lib.hid ((below_drewN HB4.out _).trans (hb6.mono HB4.out.size)); have HY6 := Lib.hid (((HY4.out.drewN _).below hb6 (Nat.le_refl _)).more hb6.size); clear hb6)
    rcases Nat.eq_zero_or_pos n with hz | hz
    all_goals
      first
        | (have hz0 : (n : Int) = 0 := by omega
           clear e0)
        | (have hz0 : ¬ (n : Int) = 0 := by omega
           replace e0 := e0 hz
           have HPOS := Lib.hid hz)
      clear hz
      go_wp2_with (first
        | fail
        | (go_at_call 9; (with_reducible refine (HQ2.out _ HY6.out HPOS.out).mono ?_); intro r w7 hr7; obtain ⟨A7, c7, rfl, hb7⟩ := hr7.bad8; clear hr7; have HB7 := Lib.hid (HB6.out.trans (hb7.mono HB6.out.size)); clear hb7))
      go_ret
      exact ⟨rfl, by first | exact HB7.out | exact HB6.out⟩
  · by_cases h0 : n ≤ 800
    · have hn0i : ¬ (800 : Int) < n := by omega
      have hn2i : (30 : Int) < n2 := by omega
      go_enter Try.func5, Try.ntmps5
      go_wp2_with (go_at_call 8; refine HAW.out.mono ?_; (rintro r w0 ⟨rfl, hb0⟩); have HB0 := Lib.hid hb0; clear hb0)
      go_ret
      exact ⟨rfl, HB0.out⟩
    · have hn0i : (800 : Int) < n := by omega
      go_enter Try.func5, Try.ntmps5
      go_wp2_with (go_at_call 8; refine HAW.out.mono ?_; (rintro r w0 ⟨rfl, hb0⟩); have HB0 := Lib.hid hb0; clear hb0)
      go_ret
      exact ⟨rfl, HB0.out⟩
set_option maxRecDepth 100000 in
theorem back_lifted (os : Os) (started : os.Started) (H : Type) (enc : TypeId × Value → H) :
    ReturnsInHanded {} Try.checked os 5 .any (Rows.lzwBackSpec.pre6 enc Try.prog Try.f5 Rows.lzwBackRow.domain false) (Rows.lzwBackSpec.post enc Try.prog Try.f5 false true false false) := by
  refine returnsInHanded_of_change (C := Try.checked) own started (by kernel_rfl) Try.func5
    (ChangeSpec.witness6 (enc := enc) (C := Try.checked) false ⟨#[], #[.slice none 0 0, .slice none 0 0], []⟩ 8 (by kernel_rfl) (by kernel_rfl) (by kernel_rfl) (by kernel_rfl)) ?_
  intro W base args ds gs before hval0 hW hcnd _
  have hval : ∀ (j : Nat) t v, Try.f5.params[j]? = some t → args[j]? = some v → Value.okWide Try.prog W .any base t v := hval0
  have hW' := hW
  obtain ⟨p, q, hA0, hV, rfl, hfz, hnd⟩ := hW
  have hA : DataW.TrodAll enc Try.prog W 0 (fun _ => true) true Try.f5.params.toList args.toList ds p := hA0
  rw [Try.params5] at hA hval
  obtain ⟨v0, vs0, d0, ds0, p0, q0, hargs, rfl, rfl, h0, r0⟩ := trodAll_cons hA
  obtain ⟨v1, vs1, d1, ds1, p1, q1, rfl, rfl, rfl, h1, r1⟩ := trodAll_cons r0
  obtain ⟨rfl, rfl, rfl⟩ := trodAll_nil r1
  obtain rfl : args = #[v0, v1] := by cases args; simp_all
  obtain ⟨rfl, rfl⟩ := trodVars_none hV
  obtain ⟨a0, len0, cap0, rfl⟩ := okWide_slice Try.underlying23 (hval 0 23 v0 rfl rfl)
  obtain ⟨zs0, hz0, hcm0⟩ := open_bytes h0 (fun _ => rfl)
  have lt0 : ∀ x ∈ p0, x.block < W.heap.size := by obtain ⟨m, hm⟩ := h0; exact DataW.trod_lt m _ _ _ hm
  obtain ⟨a1, len1, cap1, rfl⟩ := okWide_slice Try.underlying23 (hval 1 23 v1 rfl rfl)
  obtain ⟨zs1, hz1, hcm1⟩ := open_bytes h1 (fun _ => rfl)
  have lt1 : ∀ x ∈ p1, x.block < W.heap.size := by obtain ⟨m, hm⟩ := h1; exact DataW.trod_lt m _ _ _ hm
  have hmx : maxLen = 9223372036854775807 := by decide
  clear hA0 hval0
  refine (back_walk a0 len0 cap0 zs0 a1 len1 cap1 zs1 W hz0 (by have := hz0.cap; omega) hz1 (by have := hz1.cap; omega)).mono fun e W' ⟨he, bel⟩ => ?_
  subst he
  exact ⟨_, rfl, _, _, _, [], _, [], hW', trodAll_mk1 (shut_bool Try.underlying4 _), (trodAll_cons_mk (Below.trod laidOut (by kernel_rfl) (of_decide_eq_true (by kernel_rfl)) h0 bel lt0) (trodAll_cons_mk (Below.trod laidOut (by kernel_rfl) (of_decide_eq_true (by kernel_rfl)) h1 bel lt1) trodAll_mk0)), rfl, bel.frame _, fun h => by cases h⟩

/-- LzwBack: it answers true. -/
theorem back_holds : Rows.LzwBackSaid :=
  OpenClaim.holds_of_wide 5 Try.f5 rfl rfl rfl rfl rfl rfl rfl ⟨rfl, rfl, rfl, rfl, rfl⟩ rfl rfl rfl rfl rfl (by kernel_rfl) Try.func5 (by kernel_rfl)
    (of_decide_eq_true (by kernel_rfl)) (by unfold Func.isWrapper; first | (rw [if_pos (by decide +kernel)]; kernel_rfl) | (rw [if_neg (by decide +kernel)]; exact ⟨rfl, rfl⟩))
    (fun os started H enc _ => back_lifted os started H enc)
#print axioms back_holds

end Go.Proofs.Ytpnnejedfccckaa
