/- InflateBack: what was written is read as it was, whatever stands behind it, with just so much room, and not with less. No condition on the input. -/
import Derived.Test.YtebbakfjjjamkaaDoorLaw4Do
import Derived.Test.YtebbakfjjjamkaaDoorPZl
import Derived.Test.YtebbakfjjjamkaaDoorDec5Z
namespace Go.Proofs.YtebbakfjjjamkaaDoor
open Go.ChangeShapes Go.WideShapes Go.ChangeAt Go.RowKit Go.Deep
set_option linter.unusedVariables false
set_option maxRecDepth 100000

set_option maxRecDepth 100000 in
set_option maxHeartbeats 4000000 in
theorem iback_walk (A : Option Addr) (n c : Nat) (zs : List Int) (B : Option Addr) (m d : Nat) (ys : List Int) (w : World) (ho : Ord w) (hb : Byt w w.heap.size A n c zs) (hn : n ≤ 9223372036854775807) (hy : Byt w w.heap.size B m d ys) (hm : m ≤ 9223372036854775807) :
    Calls Tryd.prog 4 #[.slice A n c, .slice B m d] w fun e w' => e = .returned (.bool true) ∧ Below w.heap.size w w' := by
  have HAW := Lib.hid (awake_any w ho)
  have HO := Lib.hid (fun W (hW : Below w.heap.size w W) => ho.below hW (Nat.le_refl _))
  have HB := Lib.hid (fun W (hW : Below w.heap.size w W) => (hb.below hW (Nat.le_refl _)).more hW.size)
  have HY := Lib.hid (fun W (hW : Below w.heap.size w W) => (hy.below hW (Nat.le_refl _)).more hW.size)
  by_cases hok : n ≤ 1500 ∧ m ≤ 50
  · obtain ⟨hn1, hm1⟩ := hok
    have hlen := hb.len
    have hrz := hb.rng
    have hry := hy.rng
    have hbl := body_len zs
    have hzl := zlibS_len zs
    have hsl := join1_len zs
    have h65 : zs.length < 65536 := by omega
    have hfull := unz_full zs ys n hrz hry h65 (by omega)
    have hst := stor_full zs ys n (bys_of _ fun z h => by
      rcases List.mem_append.1 h with h | h
      · exact join_rng zs hrz h65 z h
      · exact hry z h) h65 (by omega)
    have hlim : 1 ≤ n → ∃ o k, unzS (zlibS zs) (n - 1) = (o, k, 7) := fun h1 => by
      have := unz_limit zs [] (n - 1) hrz (fun _ h => by cases h) h65 (by omega)
      rw [List.append_nil] at this
      exact ⟨_, _, Prod.ext rfl (Prod.ext rfl this)⟩
    obtain ⟨Z, hZ⟩ : ∃ Z, zlibS zs = Z := ⟨_, rfl⟩
    obtain ⟨S, hS⟩ : ∃ S, joinZ [zs] = S := ⟨_, rfl⟩
    rw [hZ] at hfull hlim hzl
    rw [hS] at hst hsl
    obtain ⟨p, hp⟩ : ∃ p, Z.length = p := ⟨_, rfl⟩
    obtain ⟨q, hq⟩ : ∃ q, S.length = q := ⟨_, rfl⟩
    rw [hp] at hfull hzl
    rw [hq] at hst hsl
    have hp2 : p ≤ 2000 := by omega
    have hq2 : q ≤ 2000 := by omega
    have HZ := Lib.hid (fun W (hW : Byt W W.heap.size A n c zs) => by
      have := refZlib A n c zs W hW (by omega)
      rw [hZ, hp] at this
      exact this)
    have HS := Lib.hid (fun W (hW : Byt W W.heap.size A n c zs) => by
      have := refStored A n c zs W hW (by omega)
      rw [hS, hq] at this
      exact this)
    have HCP := Lib.hid (fun W A1 c1 (hW : Byt W W.heap.size A1 p c1 Z) => refCopy A1 p c1 Z W hW (by omega))
    have HI1 : Hid (∀ W A1 c1, Byt W W.heap.size A1 (p + m) c1 (Z ++ ys) → Ord W → Calls Tryd.prog 7 #[.slice A1 (p + m) c1, .int .i64 n] W fun r w' => ∃ A' c', r = .returned (.tuple #[.slice A' n c', .int .i64 p, .int .i64 0]) ∧ Byt w' w'.heap.size A' n c' zs ∧ Below W.heap.size W w') := Lib.hid fun W A1 c1 hW hO => by
      have := inZlib A1 (p + m) c1 n n (Z ++ ys) W hW hO (by omega) (by omega) (by omega) (by omega)
      rw [hfull] at this
      exact this.mono fun r w' ⟨A', c', h1, h2, _, h4⟩ => ⟨A', c', by rw [h1, ← hlen], by rw [← hlen]; exact h2, h4⟩
    have HI2 : Hid (∀ W A1 c1, Byt W W.heap.size A1 (q + m) c1 (S ++ ys) → Ord W → Calls Tryd.prog 12 #[.slice A1 (q + m) c1, .int .i64 n] W fun r w' => ∃ A' c', r = .returned (.tuple #[.slice A' n c', .int .i64 q, .int .i64 0]) ∧ Byt w' w'.heap.size A' n c' zs ∧ Below W.heap.size W w') := Lib.hid fun W A1 c1 hW hO => by
      have := inBlocks A1 (q + m) c1 n n (S ++ ys) W hW hO (by omega) (by omega) (by omega) (by omega)
      rw [hst] at this
      exact this.mono fun r w' ⟨A', c', h1, h2, _, h4⟩ => ⟨A', c', by rw [h1, ← hlen], by rw [← hlen]; exact h2, h4⟩
    have HI3 : 1 ≤ n → Hid (∀ W A1 c1, Byt W W.heap.size A1 p c1 Z → Ord W → Calls Tryd.prog 7 #[.slice A1 p c1, .int .i64 ((n : Int) - 1)] W fun r w' => ∃ v k, r = .returned (.tuple #[v, .int .i64 k, .int .i64 7]) ∧ Below W.heap.size W w') := fun h1 => Lib.hid fun W A1 c1 hW hO => by
      obtain ⟨o, k, hk⟩ := hlim h1
      have := inZlib A1 p c1 (n - 1) ((n : Int) - 1) Z W hW hO (by omega) (by omega) (by omega) (by omega)
      rw [hk] at this
      exact this.mono fun r w' ⟨A', c', h1, h2, _, h4⟩ => ⟨_, _, h1, h4⟩
    have hbn : p + m ≤ 140737488355328 := by omega
    have hbq : q + m ≤ 140737488355328 := by omega
    have hnn : (n : Int) ≤ 1500 := by omega
    clear hfull hst hlim hZ hS hp hq hlen hrz hry hbl hzl hsl h65 hb hy ho
    by_cases h0 : n = 0
    · have t0 : ((n : Int) == 0) = true := beq_iff_eq.2 (by omega)
      clear h0 HI3
      go_enter Tryd.func4, Tryd.ntmps4
      go_wp2_with (first
        | (go_at_call 6; with_reducible refine HAW.out.mono ?_; rintro e w1 ⟨rfl, hb1⟩; have HB1 := Lib.hid hb1; clear hb1)
        | (go_at_call 10; with_reducible refine (HZ.out _ (HB.out _ HB1.out)).mono ?_; rintro e w2 ⟨v2, rfl, hm2, hb2⟩; obtain ⟨A2, c2, rfl, hy2⟩ := hm2.byt; have HM2 := Lib.hid hm2; have HY2 := Lib.hid hy2; have HB2 := Lib.hid (HB1.out.trans (hb2.mono HB1.out.size)); clear hm2 hb2 hy2)
        | (go_at_call 11; with_reducible refine (HCP.out _ _ _ HY2.out).mono ?_; rintro e w3 ⟨v3, rfl, hm3, hb3⟩; have HC3 := Lib.hid hb3; have HB3 := Lib.hid (HB2.out.trans (hb3.mono HB2.out.size)); have HA3 := Lib.hid (hm3.append (HY.out _ HB3.out) 22 hbn hb3.size); obtain ⟨A3, c3, rfl, _⟩ := hm3.byt; clear hm3 hb3)
        | (at_builtin; obtain ⟨v4, w4, hrun, hm4, hb4⟩ := HA3.out; obtain ⟨A4, c4, rfl, hy4⟩ := hm4.byt; refine Lib.wpList_append_run_sl _ rfl (.tmp 29) (.tmp 30) 22 rfl _ _ rfl rfl hrun ?_; clear hrun HA3; have HY4 := Lib.hid hy4; have HC4 := Lib.hid (HC3.out.trans hb4); have HB4 := Lib.hid (HB3.out.trans (hb4.mono HB2.out.size)); clear hm4 hb4 hy4)
        | (go_at_call 7; with_reducible refine (HI1.out _ _ _ HY4.out (HO.out _ HB4.out)).mono ?_; rintro e w5 ⟨A5, c5, rfl, hy5, hb5⟩; have HY5 := Lib.hid hy5; have HC5 := Lib.hid (HC4.out.trans (hb5.mono HC4.out.size)); have HB5 := Lib.hid (HB4.out.trans (hb5.mono HB4.out.size)); clear hy5 hb5)
        | (go_at_call 9; with_reducible refine (refSame_yes A5 A n c5 _ c _ zs _ HY5.out (HB.out _ HB5.out) hn).mono ?_; rintro e w6 ⟨rfl, q6, rfl⟩; have HC6 := Lib.hid (below_drewN HC5.out q6); have HB6 := Lib.hid (below_drewN HB5.out q6); (try dsimp only))
        | (go_at_call 13; with_reducible refine (HS.out _ (HB.out _ HB6.out)).mono ?_; rintro e w7 ⟨v7, rfl, hm7, hb7⟩; have HC7 := Lib.hid (HC6.out.trans (hb7.mono HC6.out.size)); have HB7 := Lib.hid (HB6.out.trans (hb7.mono HB6.out.size)); have HA7 := Lib.hid ((hm7.base (Nat.le_trans HC6.out.size (Nat.le_refl _))).append (HY.out _ HB7.out) 22 hbq HC7.out.size); obtain ⟨A7, c7, rfl, _⟩ := hm7.byt; clear hm7 hb7)
        | (at_builtin; obtain ⟨v8, w8, hrun, hm8, hb8⟩ := HA7.out; obtain ⟨A8, c8, rfl, hy8⟩ := hm8.byt; refine Lib.wpList_append_run_sl _ rfl (.tmp 54) (.tmp 55) 22 rfl _ _ rfl rfl hrun ?_; clear hrun HA7; have HY8 := Lib.hid hy8; have HC8 := Lib.hid (HC7.out.trans hb8); have HB8 := Lib.hid (HB7.out.trans (hb8.mono HB2.out.size)); clear hm8 hb8 hy8)
        | (go_at_call 12; with_reducible refine (HI2.out _ _ _ HY8.out (HO.out _ HB8.out)).mono ?_; rintro e w9 ⟨A9, c9, rfl, hy9, hb9⟩; have HY9 := Lib.hid hy9; have HC9 := Lib.hid (HC8.out.trans (hb9.mono HC8.out.size)); have HB9 := Lib.hid (HB8.out.trans (hb9.mono HB8.out.size)); clear hy9 hb9)
        | (go_at_call 13; with_reducible refine (HS.out _ (HB.out _ HB9.out)).mono ?_; rintro e w12 ⟨v12, rfl, hm12, hb12⟩; have HY12 := Lib.hid ((HY9.out.below hb12 (Nat.le_refl _)).more hb12.size); have HC12 := Lib.hid (HC9.out.trans (hb12.mono HC9.out.size)); have HB12 := Lib.hid (HB9.out.trans (hb12.mono HB9.out.size)); obtain ⟨A12, c12, rfl, _⟩ := hm12.byt; clear hm12 hb12)
        | (go_at_call 9; with_reducible refine (refSame_yes A9 A n c9 _ c _ zs _ HY12.out (HB.out _ HB12.out) hn).mono ?_; rintro e w13 ⟨rfl, q13, rfl⟩; have HC13 := Lib.hid (below_drewN HC12.out q13); have HB13 := Lib.hid (below_drewN HB12.out q13); have HZ13 := Lib.hid ((HM2.out.kept HC13.out).byt); (try dsimp only)))
      go_ret
      exact ⟨rfl, HB13.out⟩
    · have t0 : ((n : Int) == 0) = false := beq_eq_false_iff_ne.2 (by omega)
      have hi3 := HI3 (by omega)
      clear h0 HI3
      go_enter Tryd.func4, Tryd.ntmps4
      go_wp2_with (first
        | (go_at_call 6; with_reducible refine HAW.out.mono ?_; rintro e w1 ⟨rfl, hb1⟩; have HB1 := Lib.hid hb1; clear hb1)
        | (go_at_call 10; with_reducible refine (HZ.out _ (HB.out _ HB1.out)).mono ?_; rintro e w2 ⟨v2, rfl, hm2, hb2⟩; obtain ⟨A2, c2, rfl, hy2⟩ := hm2.byt; have HM2 := Lib.hid hm2; have HY2 := Lib.hid hy2; have HB2 := Lib.hid (HB1.out.trans (hb2.mono HB1.out.size)); clear hm2 hb2 hy2)
        | (go_at_call 11; with_reducible refine (HCP.out _ _ _ HY2.out).mono ?_; rintro e w3 ⟨v3, rfl, hm3, hb3⟩; have HC3 := Lib.hid hb3; have HB3 := Lib.hid (HB2.out.trans (hb3.mono HB2.out.size)); have HA3 := Lib.hid (hm3.append (HY.out _ HB3.out) 22 hbn hb3.size); obtain ⟨A3, c3, rfl, _⟩ := hm3.byt; clear hm3 hb3)
        | (at_builtin; obtain ⟨v4, w4, hrun, hm4, hb4⟩ := HA3.out; obtain ⟨A4, c4, rfl, hy4⟩ := hm4.byt; refine Lib.wpList_append_run_sl _ rfl (.tmp 29) (.tmp 30) 22 rfl _ _ rfl rfl hrun ?_; clear hrun HA3; have HY4 := Lib.hid hy4; have HC4 := Lib.hid (HC3.out.trans hb4); have HB4 := Lib.hid (HB3.out.trans (hb4.mono HB2.out.size)); clear hm4 hb4 hy4)
        | (go_at_call 7; with_reducible refine (HI1.out _ _ _ HY4.out (HO.out _ HB4.out)).mono ?_; rintro e w5 ⟨A5, c5, rfl, hy5, hb5⟩; have HY5 := Lib.hid hy5; have HC5 := Lib.hid (HC4.out.trans (hb5.mono HC4.out.size)); have HB5 := Lib.hid (HB4.out.trans (hb5.mono HB4.out.size)); clear hy5 hb5)
        | (go_at_call 9; with_reducible refine (refSame_yes A5 A n c5 _ c _ zs _ HY5.out (HB.out _ HB5.out) hn).mono ?_; rintro e w6 ⟨rfl, q6, rfl⟩; have HC6 := Lib.hid (below_drewN HC5.out q6); have HB6 := Lib.hid (below_drewN HB5.out q6); (try dsimp only))
        | (go_at_call 13; with_reducible refine (HS.out _ (HB.out _ HB6.out)).mono ?_; rintro e w7 ⟨v7, rfl, hm7, hb7⟩; have HC7 := Lib.hid (HC6.out.trans (hb7.mono HC6.out.size)); have HB7 := Lib.hid (HB6.out.trans (hb7.mono HB6.out.size)); have HA7 := Lib.hid ((hm7.base (Nat.le_trans HC6.out.size (Nat.le_refl _))).append (HY.out _ HB7.out) 22 hbq HC7.out.size); obtain ⟨A7, c7, rfl, _⟩ := hm7.byt; clear hm7 hb7)
        | (at_builtin; obtain ⟨v8, w8, hrun, hm8, hb8⟩ := HA7.out; obtain ⟨A8, c8, rfl, hy8⟩ := hm8.byt; refine Lib.wpList_append_run_sl _ rfl (.tmp 54) (.tmp 55) 22 rfl _ _ rfl rfl hrun ?_; clear hrun HA7; have HY8 := Lib.hid hy8; have HC8 := Lib.hid (HC7.out.trans hb8); have HB8 := Lib.hid (HB7.out.trans (hb8.mono HB2.out.size)); clear hm8 hb8 hy8)
        | (go_at_call 12; with_reducible refine (HI2.out _ _ _ HY8.out (HO.out _ HB8.out)).mono ?_; rintro e w9 ⟨A9, c9, rfl, hy9, hb9⟩; have HY9 := Lib.hid hy9; have HC9 := Lib.hid (HC8.out.trans (hb9.mono HC8.out.size)); have HB9 := Lib.hid (HB8.out.trans (hb9.mono HB8.out.size)); clear hy9 hb9)
        | (go_at_call 13; with_reducible refine (HS.out _ (HB.out _ HB9.out)).mono ?_; rintro e w12 ⟨v12, rfl, hm12, hb12⟩; have HY12 := Lib.hid ((HY9.out.below hb12 (Nat.le_refl _)).more hb12.size); have HC12 := Lib.hid (HC9.out.trans (hb12.mono HC9.out.size)); have HB12 := Lib.hid (HB9.out.trans (hb12.mono HB9.out.size)); obtain ⟨A12, c12, rfl, _⟩ := hm12.byt; clear hm12 hb12)
        | (go_at_call 9; with_reducible refine (refSame_yes A9 A n c9 _ c _ zs _ HY12.out (HB.out _ HB12.out) hn).mono ?_; rintro e w13 ⟨rfl, q13, rfl⟩; have HC13 := Lib.hid (below_drewN HC12.out q13); have HB13 := Lib.hid (below_drewN HB12.out q13); have HZ13 := Lib.hid ((HM2.out.kept HC13.out).byt); (try dsimp only))
        | (go_at_call 7; obtain ⟨Az, cz, ez, hyz⟩ := HZ13.out; injection ez with ez1 ez2 ez3; subst ez1 ez3; refine (hi3.out _ _ _ hyz (HO.out _ HB13.out)).mono ?_; rintro e w14 ⟨v14, k14, rfl, hb14⟩; have HB14 := Lib.hid (HB13.out.trans (hb14.mono HB13.out.size)); clear hb14))
      go_ret
      exact ⟨rfl, HB14.out⟩
  · have hno : 1500 < n ∨ 50 < m := by omega
    clear hok
    by_cases h1 : 1500 < n
    · have g1 : (1500 : Int) < n := by omega
      clear hno h1
      go_enter Tryd.func4, Tryd.ntmps4
      go_wp2_with (go_at_call 6; refine HAW.out.mono ?_; rintro e w1 ⟨rfl, hb1⟩; have HB1 := Lib.hid hb1; clear hb1)
      go_ret
      exact ⟨rfl, HB1.out⟩
    · have g1 : ¬ (1500 : Int) < n := by omega
      have g2 : (50 : Int) < m := by omega
      clear hno h1
      go_enter Tryd.func4, Tryd.ntmps4
      go_wp2_with (go_at_call 6; refine HAW.out.mono ?_; rintro e w1 ⟨rfl, hb1⟩; have HB1 := Lib.hid hb1; clear hb1)
      go_ret
      exact ⟨rfl, HB1.out⟩

theorem ord_of_inflateBack {W : World} (h : laidMetH Tryd.prog Rows.inflateBackRow.laid W) : Ord W := by
  rw [MakeChecks.laidMetH_plain _ _ _ (by kernel_rfl)] at h
  have h2 : laidMet Tryd.prog (("pressmark/inflate.order", Lib.tabData .i64 ordL) :: []) W := h
  exact fun i hi => (Lib.tabIs_of_head (g := 0) (t := 116) (e := 3) (n := 19) (by kernel_rfl) (by kernel_rfl) Tryd.underlying116 Tryd.underlying3 (by kernel_rfl) (by kernel_rfl) h2).cell (by kernel_rfl) i hi
set_option maxRecDepth 100000 in
theorem iback_lifted (os : Os) (started : os.Started) (H : Type) (enc : TypeId × Value → H) :
    ReturnsInHanded {} Tryd.checked os 4 .any (fun w args => (Rows.inflateBackSpec.pre enc Tryd.prog Tryd.f4 Rows.inflateBackRow.domain false w args ∧ laidMetH Tryd.prog Rows.inflateBackRow.laid w) ∧ sizedMet enc Tryd.prog Tryd.f4 (OpenSpec.ofChange Rows.inflateBackSpec) false w args) (Rows.inflateBackSpec.post enc Tryd.prog Tryd.f4 false true false false) := by
  refine returnsInHanded_of_change_and (C := Tryd.checked) (X := fun w _ => laidMetH Tryd.prog Rows.inflateBackRow.laid w) (fun _ _ _ hh h => h.of_heap hh) own started (by kernel_rfl) Tryd.func4
    (ChangeSpec.witness_shaped (enc := enc) (C := Tryd.checked) (os := os) (X := fun w _ => laidMetH Tryd.prog Rows.inflateBackRow.laid w) false (World.laidAll Tryd.prog os Rows.inflateBackRow.laid) #[.slice none 0 0, .slice none 0 0] 8 (World.laidAll_os _ _ _)
      (World.shaped_of_ZipB (by kernel_rfl) (by kernel_rfl)) (by kernel_rfl) (by kernel_rfl) (by kernel_rfl)
      (by rw [MakeChecks.laidMetH_plain _ _ _ (by kernel_rfl)]; exact laidMet_laidAll _ (by kernel_rfl) (by kernel_rfl))) ?_
  intro W base args ds gs before hval0 hW hcnd _ hL _
  have hord : Ord W := ord_of_inflateBack hL
  clear hL
  have hval : ∀ (j : Nat) t v, Tryd.f4.params[j]? = some t → args[j]? = some v → Value.okWide Tryd.prog W .any base t v := hval0
  have hW' := hW
  obtain ⟨p, q, hA0, hV, rfl, hfz, hnd⟩ := hW
  have hA : DataW.TrodAll enc Tryd.prog W 0 (fun _ => true) true Tryd.f4.params.toList args.toList ds p := hA0
  rw [Tryd.params4] at hA hval
  obtain ⟨v0, vs0, d0, ds0, p0, q0, hargs, rfl, rfl, h0, r0⟩ := trodAll_cons hA
  obtain ⟨v1, vs1, d1, ds1, p1, q1, rfl, rfl, rfl, h1, r1⟩ := trodAll_cons r0
  obtain ⟨rfl, rfl, rfl⟩ := trodAll_nil r1
  obtain rfl : args = #[v0, v1] := by cases args; simp_all
  obtain ⟨rfl, rfl⟩ := trodVars_none hV
  obtain ⟨a0, len0, cap0, rfl⟩ := okWide_slice Tryd.underlying22 (hval 0 22 v0 rfl rfl)
  obtain ⟨zs0, hz0, hcm0⟩ := open_bytes h0 (fun _ => rfl)
  have lt0 : ∀ x ∈ p0, x.block < W.heap.size := by obtain ⟨m, hm⟩ := h0; exact DataW.trod_lt m _ _ _ hm
  obtain ⟨a1, len1, cap1, rfl⟩ := okWide_slice Tryd.underlying22 (hval 1 22 v1 rfl rfl)
  obtain ⟨zs1, hz1, hcm1⟩ := open_bytes h1 (fun _ => rfl)
  have lt1 : ∀ x ∈ p1, x.block < W.heap.size := by obtain ⟨m, hm⟩ := h1; exact DataW.trod_lt m _ _ _ hm
  have hmx : maxLen = 9223372036854775807 := by decide
  clear hA0 hval0
  refine (iback_walk a0 len0 cap0 zs0 a1 len1 cap1 zs1 W hord hz0 (by have := hz0.cap; omega) hz1 (by have := hz1.cap; omega)).mono fun e W' ⟨he, bel⟩ => ?_
  subst he
  exact ⟨_, rfl, _, _, _, [], _, [], hW', trodAll_mk1 (shut_bool Tryd.underlying4 _), (trodAll_cons_mk (Below.trod laidOut (by kernel_rfl) (of_decide_eq_true (by kernel_rfl)) h0 bel lt0) (trodAll_cons_mk (Below.trod laidOut (by kernel_rfl) (of_decide_eq_true (by kernel_rfl)) h1 bel lt1) trodAll_mk0)), rfl, bel.frame _, fun h => by cases h⟩

/-- InflateBack: it answers true. -/
theorem iback_holds : Rows.InflateBackSaid :=
  OpenClaim.holds_of_wide 4 Tryd.f4 rfl rfl rfl rfl rfl rfl rfl ⟨rfl, rfl, rfl, rfl, rfl⟩ rfl rfl rfl rfl rfl (by kernel_rfl) Tryd.func4 (by kernel_rfl)
    (of_decide_eq_true (by kernel_rfl)) (by unfold Func.isWrapper; first | (rw [if_pos (by decide +kernel)]; kernel_rfl) | (rw [if_neg (by decide +kernel)]; exact ⟨rfl, rfl⟩))
    (fun os started H enc _ => iback_lifted os started H enc)
theorem iback_card : Rows.InflateBackCardSaid :=
  Claim7.holds_tied_plain_at .later [] [.data] true Rows.inflateBackCard.stood.harness false iback_holds (fun _ h => by cases h) (by kernel_rfl) (fun _ h => by cases h) inflateBack_row_tie rfl ⟨rfl, rfl⟩ (by kernel_rfl) rfl
    (fun f fn hf hfn => by
      obtain rfl : f = 4 := Option.some.inj ((show Tryd.prog.funcNamed "pressmark/pressmarklaw4.InflateBack" = some 4 by kernel_rfl).symm.trans hf) |>.symm
      obtain rfl : fn = Tryd.f4 := (Option.some.inj (Tryd.func4.symm.trans hfn)).symm
      exact ⟨by kernel_rfl, fun j t ht => by
        rw [Tryd.params4] at ht
        have hm : t ∈ [22, 22] := by simpa using Array.mem_of_getElem? ht
        have hall : ([22, 22].all fun u => !Tryd.prog.wantsStandIn u) = true := by kernel_rfl
        exact (show Tryd.prog.wantsStandIn t = false by simpa using List.all_eq_true.1 hall t hm)⟩)
    (by kernel_rfl)
#print axioms iback_card

end Go.Proofs.YtebbakfjjjamkaaDoor
