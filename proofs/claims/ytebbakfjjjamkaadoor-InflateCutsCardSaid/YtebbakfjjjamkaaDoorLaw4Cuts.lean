/- InflateCuts: what was written, and ends too early, is too short, wherever it ends. No condition on the input. -/
import Derived.Test.YtebbakfjjjamkaaDoorLaw4Do
import Derived.Test.YtebbakfjjjamkaaDoorPZl
import Derived.Test.YtebbakfjjjamkaaDoorDec5Z
import Derived.StillTailTactics
namespace Go.Proofs.YtebbakfjjjamkaaDoor
open Go.ChangeShapes Go.WideShapes Go.ChangeAt Go.RowKit Go.Deep
set_option linter.unusedVariables false
set_option maxRecDepth 100000

theorem fixedS_pos (zs : List Int) : 1 ≤ (fixedS zs).length ∧ (fixedS zs).length ≤ (fixBits zs).length := by
  have h := fixedS_len zs
  have hL : (fixBits zs).length = 3 + (fixR zs zs.length 0).length + (symB 256).length := by
    unfold fixBits; simp only [List.length_append, List.length_cons, List.length_nil]; omega
  have hs := symB_len 256 (by omega)
  omega
/-- The first bytes of a slice, at its own address. -/
theorem Byt.pre {w : World} {B n c m : Nat} {A : Option Addr} {zs : List Int} (h : Byt w B A n c zs) (hm : m ≤ n) : Byt w B A m c (zs.take m) :=
  ⟨by rw [List.length_take, h.len]; omega, Nat.le_trans hm h.cap, fun z hz => h.rng z (List.mem_of_mem_take hz), fun h0 => by
    obtain ⟨b, o, e, hlt, hc⟩ := h.cell (by omega)
    refine ⟨b, o, e, hlt, fun i hi => ?_⟩
    rw [hc i (by omega)]
    simp [List.getD, hi]⟩
theorem fixBits_len (zs : List Int) (hz : ∀ z ∈ zs, 0 ≤ z ∧ z < 256) : (fixBits zs).length ≤ 12 + 9 * zs.length := by
  have hL : (fixBits zs).length = 3 + (fixR zs zs.length 0).length + (symB 256).length := by
    unfold fixBits; simp only [List.length_append, List.length_cons, List.length_nil]; omega
  have hs := symB_len 256 (by omega)
  have := fixR_len zs hz zs.length 0
  omega
set_option maxRecDepth 100000 in
set_option maxHeartbeats 4000000 in
theorem icuts_walk (A : Option Addr) (n c : Nat) (zs : List Int) (x : Int) (w : World) (ho : Ord w) (hb : Byt w w.heap.size A n c zs) (hn : n ≤ 9223372036854775807) (x0 : 0 ≤ x) (x1 : x ≤ 65535) :
    Calls Tryd.prog 5 #[.slice A n c, .int .u16 x] w fun e w' => e = .returned (.bool true) ∧ Below w.heap.size w w' := by
  have HAW := Lib.hid (awake_any w ho)
  have HO := Lib.hid (fun W (hW : Below w.heap.size w W) => ho.below hW (Nat.le_refl _))
  have HB := Lib.hid (fun W (hW : Below w.heap.size w W) => (hb.below hW (Nat.le_refl _)).more hW.size)
  by_cases hok : n ≤ 1000
  · have hlen := hb.len
    have hrz := hb.rng
    have hbl := body_len zs
    have hzl := zlibS_len zs
    have hfp := fixedS_pos zs
    have hfb := fixBits_len zs hrz
    have h65 : zs.length < 65536 := by omega
    have hcz := fun k (hk : k < (zlibS zs).length) => unz_cut zs k 5000 hrz h65 (by omega) hk
    have hcf := fun k (hk : k < (fixedS zs).length) => fix_cut zs k 5000 hrz (by omega) hk
    obtain ⟨Z, hZ⟩ : ∃ Z, zlibS zs = Z := ⟨_, rfl⟩
    obtain ⟨S, hS⟩ : ∃ S, fixedS zs = S := ⟨_, rfl⟩
    rw [hZ] at hcz hzl
    rw [hS] at hcf hfp
    obtain ⟨p, hp⟩ : ∃ p, Z.length = p := ⟨_, rfl⟩
    obtain ⟨q, hq⟩ : ∃ q, S.length = q := ⟨_, rfl⟩
    rw [hp] at hcz hzl
    rw [hq] at hcf hfp
    have hp0 : 0 < p := by omega
    have hq0 : 0 < q := by omega
    have hp2 : p ≤ 2000 := by omega
    have hq2 : q ≤ 12000 := by omega
    obtain ⟨X, hX⟩ : ∃ X : Nat, x = X := ⟨x.toNat, by omega⟩
    subst hX
    obtain ⟨K, hK⟩ : ∃ K, X % p = K := ⟨_, rfl⟩
    obtain ⟨J, hJ⟩ : ∃ J, X % q = J := ⟨_, rfl⟩
    have hKp : K < p := by rw [← hK]; exact Nat.mod_lt _ hp0
    have hJq : J < q := by rw [← hJ]; exact Nat.mod_lt _ hq0
    have eK : (X : Int) % p = K := by omega
    have eJ : (X : Int) % q = J := by omega
    have HZ := Lib.hid (fun W (hW : Byt W W.heap.size A n c zs) => by
      have := refZlib A n c zs W hW (by omega)
      rw [hZ, hp] at this
      exact this)
    have HS := Lib.hid (fun W (hW : Byt W W.heap.size A n c zs) => by
      have := refFixed A n c zs W hW (by omega)
      rw [hS, hq] at this
      exact this)
    have HI1 : Hid (∀ W A1 c1, Byt W W.heap.size A1 K c1 (Z.take K) → Ord W → Calls Tryd.prog 7 #[.slice A1 K c1, .int .i64 5000] W fun r w' => ∃ v k, r = .returned (.tuple #[v, .int .i64 k, .int .i64 2]) ∧ Below W.heap.size W w') := Lib.hid fun W A1 c1 hW hO => by
      have h2 := hcz K hKp
      have := inZlib A1 K c1 5000 5000 (Z.take K) W hW hO (by omega) (by omega) (by omega) (by omega)
      obtain ⟨o, k, e, hk⟩ : ∃ o k e, unzS (Z.take K) 5000 = (o, k, e) := ⟨_, _, _, rfl⟩
      rw [hk] at h2 this
      dsimp only at h2
      subst h2
      exact this.mono fun r w' ⟨A', c', h1, h2, _, h4⟩ => ⟨_, _, h1, h4⟩
    have HI2 : Hid (∀ W A1 c1, Byt W W.heap.size A1 J c1 (S.take J) → Ord W → Calls Tryd.prog 12 #[.slice A1 J c1, .int .i64 5000] W fun r w' => ∃ v k, r = .returned (.tuple #[v, .int .i64 k, .int .i64 2]) ∧ Below W.heap.size W w') := Lib.hid fun W A1 c1 hW hO => by
      have h2 := hcf J hJq
      have := inBlocks A1 J c1 5000 5000 (S.take J) W hW hO (by omega) (by omega) (by omega) (by omega)
      obtain ⟨o, k, e, hk⟩ : ∃ o k e, blocksS (S.take J) 5000 = (o, k, e) := ⟨_, _, _, rfl⟩
      rw [hk] at h2 this
      dsimp only at h2
      subst h2
      exact this.mono fun r w' ⟨A', c', h1, h2, _, h4⟩ => ⟨_, _, h1, h4⟩
    have hnn : (n : Int) ≤ 1000 := by omega
    have hpn : ¬ ((p : Int) = 0) := by omega
    have hqn : ¬ ((q : Int) = 0) := by omega
    have hp1 : (0 : Int) < p := by omega
    have hq1 : (0 : Int) < q := by omega
    have hpb : (p : Int) ≤ 2000 := by omega
    have hqb : (q : Int) ≤ 12000 := by omega
    have hXb : (X : Int) ≤ 65535 := by omega
    clear hcz hcf hZ hS hp hq hlen hrz hbl hzl hfp hfb h65 hb ho hK hJ hok
    go_enter Tryd.func5, Tryd.ntmps5
    go_wp2_with (first
      | (go_at_call 6; with_reducible refine HAW.out.mono ?_; rintro e w1 ⟨rfl, hb1⟩; have HB1 := Lib.hid hb1; clear hb1)
      | (go_at_call 10; with_reducible refine (HZ.out _ (HB.out _ HB1.out)).mono ?_; rintro e w2 ⟨v2, rfl, hm2, hb2⟩; obtain ⟨A2, c2, rfl, hy2⟩ := hm2.byt; have hc2 : K ≤ c2 := Nat.le_trans (Nat.le_of_lt hKp) hy2.cap; have HY2 := Lib.hid (hy2.pre (Nat.le_of_lt hKp)); have HB2 := Lib.hid (HB1.out.trans (hb2.mono HB1.out.size)); clear hm2 hb2 hy2)
      | (go_at_call 14; with_reducible refine (HS.out _ (HB.out _ HB2.out)).mono ?_; rintro e w3 ⟨v3, rfl, hm3, hb3⟩; obtain ⟨A3, c3, rfl, hy3⟩ := hm3.byt; have hc3 : J ≤ c3 := Nat.le_trans (Nat.le_of_lt hJq) hy3.cap; have HY3 := Lib.hid (hy3.pre (Nat.le_of_lt hJq)); have HM3 := Lib.hid ((HY2.out.below hb3 (Nat.le_refl _)).more hb3.size); have HB3 := Lib.hid (HB2.out.trans (hb3.mono HB2.out.size)); clear hm3 hb3 hy3)
      | (go_at_call 7; with_reducible refine (HI1.out _ _ _ HM3.out (HO.out _ HB3.out)).mono ?_; rintro e w4 ⟨v4, k4, rfl, hb4⟩; have HB4 := Lib.hid (HB3.out.trans (hb4.mono HB3.out.size)); have HY4 := Lib.hid ((HY3.out.below hb4 (Nat.le_refl _)).more hb4.size); clear hb4)
      | (go_at_call 12; with_reducible refine (HI2.out _ _ _ HY4.out (HO.out _ HB4.out)).mono ?_; rintro e w5 ⟨v5, k5, rfl, hb5⟩; have HB5 := Lib.hid (HB4.out.trans (hb5.mono HB4.out.size)); clear hb5))
    go_ret
    exact ⟨rfl, HB5.out⟩
  · have g1 : (1000 : Int) < n := by omega
    clear hok
    go_enter Tryd.func5, Tryd.ntmps5
    go_wp2_with (go_at_call 6; refine HAW.out.mono ?_; rintro e w1 ⟨rfl, hb1⟩; have HB1 := Lib.hid hb1; clear hb1)
    go_ret
    exact ⟨rfl, HB1.out⟩

theorem ord_of_inflateCuts {W : World} (h : laidMetH Tryd.prog Rows.inflateCutsRow.laid W) : Ord W := by
  rw [MakeChecks.laidMetH_plain _ _ _ (by kernel_rfl)] at h
  have h2 : laidMet Tryd.prog (("pressmark/inflate.order", Lib.tabData .i64 ordL) :: []) W := h
  exact fun i hi => (Lib.tabIs_of_head (g := 0) (t := 116) (e := 3) (n := 19) (by kernel_rfl) (by kernel_rfl) Tryd.underlying116 Tryd.underlying3 (by kernel_rfl) (by kernel_rfl) h2).cell (by kernel_rfl) i hi
set_option maxRecDepth 100000 in
theorem icuts_lifted (os : Os) (started : os.Started) (H : Type) (enc : TypeId × Value → H) :
    ReturnsInHanded {} Tryd.checked os 5 .any (fun w args => (Rows.inflateCutsSpec.pre enc Tryd.prog Tryd.f5 Rows.inflateCutsRow.domain false w args ∧ laidMetH Tryd.prog Rows.inflateCutsRow.laid w) ∧ sizedMet enc Tryd.prog Tryd.f5 (OpenSpec.ofChange Rows.inflateCutsSpec) false w args) (Rows.inflateCutsSpec.post enc Tryd.prog Tryd.f5 false true false false) := by
  refine returnsInHanded_of_change_and (C := Tryd.checked) (X := fun w _ => laidMetH Tryd.prog Rows.inflateCutsRow.laid w) (fun _ _ _ hh h => h.of_heap hh) own started (by kernel_rfl) Tryd.func5
    (ChangeSpec.witness_shaped (enc := enc) (C := Tryd.checked) (os := os) (X := fun w _ => laidMetH Tryd.prog Rows.inflateCutsRow.laid w) false (World.laidAll Tryd.prog os Rows.inflateCutsRow.laid) #[.slice none 0 0, .int .u16 0] 8 (World.laidAll_os _ _ _)
      (World.shaped_of_ZipB (by kernel_rfl) (by kernel_rfl)) (by kernel_rfl) (by kernel_rfl) (by kernel_rfl)
      (by rw [MakeChecks.laidMetH_plain _ _ _ (by kernel_rfl)]; exact laidMet_laidAll _ (by kernel_rfl) (by kernel_rfl))) ?_
  intro W base args ds gs before hval0 hW hcnd _ hL _
  have hord : Ord W := ord_of_inflateCuts hL
  clear hL
  have hval : ∀ (j : Nat) t v, Tryd.f5.params[j]? = some t → args[j]? = some v → Value.okWide Tryd.prog W .any base t v := hval0
  have hW' := hW
  obtain ⟨p, q, hA0, hV, rfl, hfz, hnd⟩ := hW
  have hA : DataW.TrodAll enc Tryd.prog W 0 (fun _ => true) true Tryd.f5.params.toList args.toList ds p := hA0
  rw [Tryd.params5] at hA hval
  obtain ⟨v0, vs0, d0, ds0, p0, q0, hargs, rfl, rfl, h0, r0⟩ := trodAll_cons hA
  obtain ⟨v1, vs1, d1, ds1, p1, q1, rfl, rfl, rfl, h1, r1⟩ := trodAll_cons r0
  obtain ⟨rfl, rfl, rfl⟩ := trodAll_nil r1
  obtain rfl : args = #[v0, v1] := by cases args; simp_all
  obtain ⟨rfl, rfl⟩ := trodVars_none hV
  obtain ⟨a0, len0, cap0, rfl⟩ := okWide_slice Tryd.underlying22 (hval 0 22 v0 rfl rfl)
  obtain ⟨zs0, hz0, hcm0⟩ := open_bytes h0 (fun _ => rfl)
  have lt0 : ∀ x ∈ p0, x.block < W.heap.size := by obtain ⟨m, hm⟩ := h0; exact DataW.trod_lt m _ _ _ hm
  obtain ⟨x1, rfl⟩ := okWide_int Tryd.underlying32 (hval 1 32 v1 rfl rfl)
  obtain ⟨lo1, hi1⟩ := open_intk Tryd.underlying32 h1
  rw [show IntKind.u16.min = 0 by decide] at lo1
  rw [show IntKind.u16.max = 65535 by decide] at hi1
  have lt1 : ∀ x ∈ p1, x.block < W.heap.size := by obtain ⟨m, hm⟩ := h1; exact DataW.trod_lt m _ _ _ hm
  have hmx : maxLen = 9223372036854775807 := by decide
  clear hA0 hval0
  refine (icuts_walk a0 len0 cap0 zs0 x1 W hord hz0 (by have := hz0.cap; omega) lo1 hi1).mono fun e W' ⟨he, bel⟩ => ?_
  subst he
  exact ⟨_, rfl, _, _, _, [], _, [], hW', trodAll_mk1 (shut_bool Tryd.underlying4 _), (trodAll_cons_mk (Below.trod laidOut (by kernel_rfl) (of_decide_eq_true (by kernel_rfl)) h0 bel lt0) (trodAll_cons_mk (Below.trod laidOut (by kernel_rfl) (of_decide_eq_true (by kernel_rfl)) h1 bel lt1) trodAll_mk0)), rfl, bel.frame _, fun h => by cases h⟩

/-- InflateCuts: it answers true. -/
theorem icuts_holds : Rows.InflateCutsSaid :=
  OpenClaim.holds_of_wide 5 Tryd.f5 rfl rfl rfl rfl rfl rfl rfl ⟨rfl, rfl, rfl, rfl, rfl⟩ rfl rfl rfl rfl rfl (by kernel_rfl) Tryd.func5 (by kernel_rfl)
    (of_decide_eq_true (by kernel_rfl)) (by unfold Func.isWrapper; first | (rw [if_pos (by decide +kernel)]; kernel_rfl) | (rw [if_neg (by decide +kernel)]; exact ⟨rfl, rfl⟩))
    (fun os started H enc _ => icuts_lifted os started H enc)
theorem icuts_card : Rows.InflateCutsCardSaid :=
  Claim7.holds_tied_plain_at .later [] [.data] true Rows.inflateCutsCard.stood.harness false icuts_holds (fun _ h => by cases h) (by kernel_rfl) (fun _ h => by cases h) inflateCuts_row_tie rfl ⟨rfl, rfl⟩ (by kernel_rfl) rfl
    (fun f fn hf hfn => by
      obtain rfl : f = 5 := Option.some.inj ((show Tryd.prog.funcNamed "pressmark/pressmarklaw4.InflateCuts" = some 5 by kernel_rfl).symm.trans hf) |>.symm
      obtain rfl : fn = Tryd.f5 := (Option.some.inj (Tryd.func5.symm.trans hfn)).symm
      exact ⟨by kernel_rfl, fun j t ht => by
        rw [Tryd.params5] at ht
        have hm : t ∈ [22, 32] := by simpa using Array.mem_of_getElem? ht
        have hall : ([22, 32].all fun u => !Tryd.prog.wantsStandIn u) = true := by kernel_rfl
        exact (show Tryd.prog.wantsStandIn t = false by simpa using List.all_eq_true.1 hall t hm)⟩)
    (by kernel_rfl)
#print axioms icuts_card

end Go.Proofs.YtebbakfjjjamkaaDoor
