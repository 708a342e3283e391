/- RunsLong: a row of one byte is two bytes for each 128; bytes of which no three are alike are as they are, one more for each 128. No condition on the input. -/
import Derived.Test.YtnalaenanopnbaaLaw7Do
import Derived.Test.YtnalaenanopnbaaMd7
namespace Go.Proofs.Ytnalaenanopnbaa
open Go.ChangeShapes Go.WideShapes Go.ChangeAt Go.RowKit Go.Deep
set_option linter.unusedVariables false
set_option maxRecDepth 100000

theorem and12 : ∀ x : Fin 2048, bits .and .i64 (x.val : Int) 1 = (x.val : Int) % 2 ∧ bits .and .i64 (x.val : Int) 2 = (x.val : Int) / 2 % 2 * 2 := by decide +kernel
/-- The byte at a place. -/
def bL (c : Int) (al : Bool) (i : Nat) : Int := if al = true then c else (c + (i : Int) % 2 + (i : Int) / 2 % 2 * 2) % 256
theorem bL_rng (c : Int) (al : Bool) (i : Nat) (h : 0 ≤ c ∧ c < 256) : 0 ≤ bL c al i ∧ bL c al i < 256 := by
  unfold bL
  split <;> omega
theorem bL_step (c : Int) (i : Nat) (h : 0 ≤ c ∧ c < 256) : ¬ bL c false (i + 1) = bL c false i := by
  unfold bL
  rw [if_neg (by decide), if_neg (by decide)]
  omega
theorem long_len (c : Int) (al : Bool) (K : Nat) (X : List Int) (hX : X.length = K) (h : ∀ j, j < K → X.getD j 0 = bL c al j) (hc : 0 ≤ c ∧ c < 256) :
    (encS X).length = if al = true then 2 * (K / 128) + tlN (K % 128) + 1 else K + (K + 127) / 128 + 1 := by
  subst hX
  rw [encS, List.length_append]
  simp only [List.length_cons, List.length_nil]
  cases al with
  | true =>
    rw [if_pos rfl, enc_alike X c (fun i hi => by rw [h i hi]; rfl) X.length 0 (Nat.zero_le _) (by omega)]
    rfl
  | false =>
    rw [if_neg (by decide), enc_plain X (fun i hi => by rw [h (i + 1) hi, h i (by omega)]; exact bL_step c i hc) X.length 0 (Nat.zero_le _) (by omega)]
    rfl
theorem ReadPost.atL {w w' : World} {zs : List Int} {n : Nat} {r : Ending} (hn : zs.length = n) (h : ReadPost w (zs, 0) r w') : ∃ A c, r = .returned (.tuple #[.slice A n c, .int .i64 0]) ∧ Byt w' w'.heap.size A n c zs ∧ Below w.heap.size w w' := by
  subst hn
  obtain ⟨A, c, rfl, hy, hb, _⟩ := h
  exact ⟨A, c, rfl, hy, hb⟩
set_option maxHeartbeats 4000000 in
theorem long_walk (x0 x1 : Int) (al : Bool) (w : World) (c0 : 0 ≤ x0) (c1 : x0 ≤ 255) (l0 : 0 ≤ x1) (h0 : x1 ≤ 65535) :
    Calls Try.prog 6 #[.int .u8 x0, .int .u16 x1, .bool al] w fun e w' => e = .returned (.bool true) ∧ Below w.heap.size w w' := by
  have HAW := Lib.hid (awake_any w)
  obtain ⟨K, hK⟩ : ∃ K : Nat, x1 % 2000 = K := ⟨(x1 % 2000).toNat, by omega⟩
  have hK2 : x1.tmod 2000 = K := by rw [Int.tmod_eq_emod_of_nonneg l0]; exact hK
  have hKb : K < 2000 := by omega
  have hwx : IntKind.i64.wrap x1 = x1 := IntWalk.i64_in _ (by omega)
  have hwx2 : wrap64 x1 = x1 := by unfold wrap64; omega
  have HMK := Lib.hid (fun W => make_bytes K K W (Nat.le_refl _) (by omega))
  have hmk := fun W => HMK.out W
  have HCR : Hid (0 ≤ x0 ∧ x0 < 256) := Lib.hid (by omega)
  clear HMK
  go_enter Try.func6, Try.ntmps6
  go_upto_region 6 with (go_at_call 7; refine HAW.out.mono ?_; (rintro r w0 ⟨rfl, hb0⟩); have HB0 := Lib.hid hb0; clear hb0)
  obtain ⟨g, hg⟩ : ∃ g, w0.heap.size = g := ⟨_, rfl⟩
  have hrow0 : (w0.alloc (.cells (u8s (List.replicate K 0)).toArray 5)).heap[g]? = some (.cells (u8s (List.replicate K 0)).toArray 5 (0, 0)) := by rw [← hg]; exact heap_alloc_new w0 _
  have HR0 := Lib.hid hrow0
  have HB1 := Lib.hid (HB0.out.alloc HB0.out.size (.cells (u8s (List.replicate K 0)).toArray 5))
  have HWG : Hid (w.heap.size ≤ g) := Lib.hid (by rw [← hg]; exact HB0.out.size)
  obtain ⟨W1, hW1⟩ : ∃ W1, w0.alloc (.cells (u8s (List.replicate K 0)).toArray 5) = W1 := ⟨_, rfl⟩
  rw [hW1] at HR0 HB1
  rw [hg, hW1]
  clear hrow0 hg hW1 hmk HAW hwx hwx2 hK hK2 HB0
  have hKi : (K : Int) < 2000 := by omega
  go_loopw [9] (fun iv wr => ∃ (i : Nat) (X : List Int), i ≤ K ∧ iv = .int .i64 i ∧ Hid (wr.heap[g]? = some (.cells (u8s X).toArray 5 (0, 0))) ∧ Hid (X.length = K ∧ ∀ z ∈ X, 0 ≤ z ∧ z < 256) ∧ Hid (∀ j, j < i → X.getD j 0 = bL x0 al j) ∧ Hid (Below w.heap.size w wr)) (fun iv _ => K - (intOf iv).toNat)
  case atStart => exact ⟨0, List.replicate K 0, Nat.zero_le _, rfl, HR0, Lib.hid ⟨by simp, fun z hz => by rw [List.eq_of_mem_replicate hz]; omega⟩, Lib.hid (fun j hj => by omega), HB1⟩
  case round =>
    obtain ⟨i, X, hi, rfl, HR, HX, HP, HBE⟩ := hrel
    by_cases hlt : i < K
    · have hby := own_byt wr g K X HR.out HX.out.1 HX.out.2
      obtain ⟨b', o', e, _, hc⟩ := hby.cell (by omega)
      injection e with e
      injection e with e1 e2
      subst e1 e2
      have ki := hc i hlt
      rw [Nat.zero_add] at ki
      have fi := own_fr wr g i X HR.out
      have hli : (i : Int) < K := by omega
      have HR2 := Lib.hid (own_set wr g i X x0 HR.out)
      have HBS := Lib.hid ((Only.refl g wr).set_ i (.int .u8 x0) |>.belowB HWG.out (Nat.le_of_lt (row_lt wr g _ HR.out)))
      cases al with
      | true =>
        clear hby hc
        go_wp2_with fail
        go_roundw
        case rel =>
          refine ⟨i + 1, X.set i x0, hlt, by go_num, HR2, Lib.hid ⟨by rw [List.length_set]; exact HX.out.1, set_rng X i _ HX.out.2 HCR.out⟩, Lib.hid (fun j hj => ?_), Lib.hid (HBE.out.trans HBS.out)⟩
          rw [set_getD X i j x0 (by rw [HX.out.1]; exact hlt)]
          split
          · rfl
          · exact HP.out j (by omega)
        case measure => simp [intOf]; omega
      | false =>
        have hby2 := own_byt _ g K (X.set i x0) HR2.out (by rw [List.length_set]; exact HX.out.1) (set_rng X i _ HX.out.2 HCR.out)
        obtain ⟨b', o', e, _, hc2⟩ := hby2.cell (by omega)
        injection e with e
        injection e with e1 e2
        subst e1 e2
        have ki2 := hc2 i hlt
        rw [Nat.zero_add] at ki2
        have fi2 := own_fr _ g i (X.set i x0) HR2.out
        have ha := and12 ⟨i, by omega⟩
        dsimp only at ha
        obtain ⟨a1, a2⟩ := ha
        obtain ⟨r1, hr1⟩ : ∃ r : Int, (i : Int) % 2 = r := ⟨_, rfl⟩
        obtain ⟨r2, hr2⟩ : ∃ r : Int, (i : Int) / 2 % 2 * 2 = r := ⟨_, rfl⟩
        rw [hr1] at a1
        rw [hr2] at a2
        have w1 : IntKind.u8.wrap r1 = r1 := IntWalk.u8_in _ (by omega)
        have w2 : IntKind.u8.wrap r2 = r2 := IntWalk.u8_in _ (by omega)
        obtain ⟨T, hT⟩ : ∃ T, (x0 + r1) % 256 = T := ⟨_, rfl⟩
        have s1 : IntKind.u8.wrap (x0 + r1) = T := by rw [IntKind.wrap_u8]; exact hT
        obtain ⟨V, hV⟩ : ∃ V, (T + r2) % 256 = V := ⟨_, rfl⟩
        have s2 : IntKind.u8.wrap (T + r2) = V := by rw [IntKind.wrap_u8]; exact hV
        have HV : Hid (bL x0 false i = V) := Lib.hid (by unfold bL; rw [if_neg (by decide)]; omega)
        have HVR : Hid (0 ≤ V ∧ V < 256) := Lib.hid (by omega)
        have HR3 := Lib.hid (own_set _ g i (X.set i x0) V HR2.out)
        have HBS3 := Lib.hid ((Only.refl g (wr.setCell ⟨g, i, none⟩ (.int .u8 x0))).set_ i (.int .u8 V) |>.belowB HWG.out (Nat.le_of_lt (row_lt _ g _ HR2.out)))
        clear hby hc hby2 hc2 hT hV hr1 hr2
        go_wp2_with fail
        go_roundw
        case rel =>
          refine ⟨i + 1, (X.set i x0).set i V, hlt, by go_num, HR3, Lib.hid ⟨by rw [List.length_set, List.length_set]; exact HX.out.1, set_rng _ i _ (set_rng X i _ HX.out.2 HCR.out) HVR.out⟩, Lib.hid (fun j hj => ?_), Lib.hid ((HBE.out.trans HBS.out).trans HBS3.out)⟩
          rw [set_getD _ i j V (by rw [List.length_set, HX.out.1]; exact hlt)]
          split
          · rename_i e; rw [e, HV.out]
          · rename_i e
            rw [set_getD X i j x0 (by rw [HX.out.1]; exact hlt), if_neg e]
            exact HP.out j (by omega)
        case measure => simp [intOf]; omega
    · obtain rfl : i = K := by omega
      have hxl := HX.out.1
      have hxr := HX.out.2
      have hby := own_byt wr g i X HR.out hxl hxr
      have hlen := long_len x0 al i X hxl HP.out HCR.out
      have hfx := pEncode (some ⟨g, 0, none⟩) i i X wr hby (by omega)
      have hrd : rdR (max (i : Int) 0).toNat (encS X) 0 [] = (X, 0) := by
        have := runs_back (max (i : Int) 0).toNat X [] hxr
        rw [List.append_nil, if_pos (by omega)] at this
        exact this
      have hel := encS_len X
      obtain ⟨E, hE⟩ : ∃ E, encS X = E := ⟨_, rfl⟩
      rw [hE] at hfx hrd hlen hel
      obtain ⟨L, hL⟩ : ∃ L, E.length = L := ⟨_, rfl⟩
      rw [hL] at hfx hlen hel
      rw [hxl] at hel
      obtain ⟨Q, hQ⟩ : ∃ Q, i / 128 = Q := ⟨_, rfl⟩
      obtain ⟨r, hr⟩ : ∃ r, i % 128 = r := ⟨_, rfl⟩
      obtain ⟨Q2, hQ2⟩ : ∃ Q2, (i + 127) / 128 = Q2 := ⟨_, rfl⟩
      rw [hQ, hr, hQ2] at hlen
      have q1 : (i : Int).tdiv 128 = Q := by rw [Int.tdiv_eq_ediv_of_nonneg (by omega)]; omega
      have q2 : (i : Int) / 128 = Q := by omega
      have q3 : (i : Int).tmod 128 = r := by rw [Int.tmod_eq_emod_of_nonneg (by omega)]; omega
      have q4 : (i : Int) % 128 = r := by omega
      have q5 : ((i : Int) + 127).tdiv 128 = Q2 := by rw [Int.tdiv_eq_ediv_of_nonneg (by omega)]; omega
      have q6 : ((i : Int) + 127) / 128 = Q2 := by omega
      have hb1 : (Q : Int) ≤ 16 := by omega
      have hb2 : (r : Int) < 128 := by omega
      have hb3 : (Q2 : Int) ≤ 16 := by omega
      have HFX := Lib.hid hfx
      have HBK := Lib.hid (fun W A1 c1 (hW : Byt W W.heap.size A1 L c1 E) => pDecode A1 L c1 i E W hW (by omega) (by omega) (by omega) (X, 0) hrd)
      have HXL := Lib.hid hxl
      have HBY := Lib.hid hby
      have hi63 : i ≤ 9223372036854775807 := by omega
      have hways : (al = false ∧ L = i + Q2 + 1) ∨ (al = true ∧ 3 ≤ r ∧ L = 2 * Q + 2 + 1) ∨ (al = true ∧ ¬ 3 ≤ r ∧ 0 < r ∧ L = 2 * Q + (1 + r) + 1) ∨ (al = true ∧ ¬ 3 ≤ r ∧ r = 0 ∧ L = 2 * Q + 0 + 1) := by
        cases al with
        | false => exact .inl ⟨rfl, by simpa using hlen⟩
        | true =>
          rw [if_pos rfl] at hlen
          unfold tlN at hlen
          by_cases h3 : 3 ≤ r
          · rw [if_pos h3] at hlen
            exact .inr (.inl ⟨rfl, h3, hlen⟩)
          · rw [if_neg h3] at hlen
            by_cases h4 : 0 < r
            · rw [if_pos h4] at hlen
              exact .inr (.inr (.inl ⟨rfl, h3, h4, hlen⟩))
            · rw [if_neg h4] at hlen
              exact .inr (.inr (.inr ⟨rfl, h3, by omega, hlen⟩))
      clear hfx hby hlen hel hE hL hQ hr hQ2 hrd hxr hxl HP HR0 HB1 HX
      rcases hways with ⟨rfl, hL⟩ | ⟨rfl, h3, hL⟩ | ⟨rfl, h3, h4, hL⟩ | ⟨rfl, h3, h4, hL⟩
      all_goals
        first
          | (have ht : ((L : Int) == (i : Int) + Q2 + 1) = true := by rw [beq_iff_eq]; omega)
          | (have h3i : (r : Int) ≥ 3 := by omega
             have ht : ((L : Int) == 2 * (Q : Int) + 1 + 2) = true := by rw [beq_iff_eq]; omega)
          | (have h3i : ¬ (r : Int) ≥ 3 := by omega
             have h4i : (r : Int) > 0 := by omega
             have ht : ((L : Int) == 2 * (Q : Int) + 1 + 1 + r) = true := by rw [beq_iff_eq]; omega)
          | (have h3i : ¬ (r : Int) ≥ 3 := by omega
             have h4i : ¬ (r : Int) > 0 := by omega
             have ht : ((L : Int) == 2 * (Q : Int) + 1) = true := by rw [beq_iff_eq]; omega)
        clear hL
        go_wp2_with (first
          | (go_at_call 10; refine HFX.out.mono ?_; (rintro r w2 ⟨v2, rfl, hm2, hb2⟩); obtain ⟨A2, c2, rfl, hy2⟩ := hm2.byt; have HY2 := Lib.hid hy2; have HB2 := Lib.hid hb2; clear hm2 hb2 hy2)
          | (go_at_call 8; refine (HBK.out _ _ _ HY2.out).mono ?_; intro r w3 hr3; obtain ⟨A3, c3, rfl, hy3, hb3⟩ := hr3.atL HXL.out; clear hr3; have HBB := Lib.hid (HB2.out.trans (hb3.mono HB2.out.size)); have HE1 := Lib.hid (refSame_yes A3 (some ⟨g, 0, none⟩) i c3 _ i _ X w3 hy3 (HBY.out.below HBB.out (Nat.le_refl _)) hi63); have HB3 := Lib.hid (HBE.out.trans (HBB.out.mono HBE.out.size)); clear hy3 hb3)
          | (go_at_call 9; with_reducible refine HE1.out.mono ?_; (rintro r w4 ⟨rfl, q4', rfl⟩)))
        go_ret
        exact ⟨rfl, below_drewN HB3.out _⟩
set_option maxRecDepth 100000 in
theorem long_lifted (os : Os) (started : os.Started) (H : Type) (enc : TypeId × Value → H) :
    ReturnsInHanded {} Try.checked os 6 .any (Rows.runsLongSpec.pre6 enc Try.prog Try.f6 Rows.runsLongRow.domain false) (Rows.runsLongSpec.post enc Try.prog Try.f6 false true false false) := by
  refine returnsInHanded_of_change (C := Try.checked) own started (by kernel_rfl) Try.func6
    (ChangeSpec.witness6 (enc := enc) (C := Try.checked) false ⟨#[], #[.int .u8 0, .int .u16 0, .bool false], []⟩ 8 (by kernel_rfl) (by kernel_rfl) (by kernel_rfl) (by kernel_rfl)) ?_
  intro W base args ds gs before hval0 hW hcnd _
  have hval : ∀ (j : Nat) t v, Try.f6.params[j]? = some t → args[j]? = some v → Value.okWide Try.prog W .any base t v := hval0
  have hW' := hW
  obtain ⟨p, q, hA0, hV, rfl, hfz, hnd⟩ := hW
  have hA : DataW.TrodAll enc Try.prog W 0 (fun _ => true) true Try.f6.params.toList args.toList ds p := hA0
  rw [Try.params6] at hA hval
  obtain ⟨v0, vs0, d0, ds0, p0, q0, hargs, rfl, rfl, h0, r0⟩ := trodAll_cons hA
  obtain ⟨v1, vs1, d1, ds1, p1, q1, rfl, rfl, rfl, h1, r1⟩ := trodAll_cons r0
  obtain ⟨v2, vs2, d2, ds2, p2, q2, rfl, rfl, rfl, h2, r2⟩ := trodAll_cons r1
  obtain ⟨rfl, rfl, rfl⟩ := trodAll_nil r2
  obtain rfl : args = #[v0, v1, v2] := by cases args; simp_all
  obtain ⟨rfl, rfl⟩ := trodVars_none hV
  obtain ⟨x0, rfl⟩ := okWide_int Try.underlying5 (hval 0 5 v0 rfl rfl)
  obtain ⟨lo0, hi0⟩ := open_intk Try.underlying5 h0
  rw [show IntKind.u8.min = 0 by decide] at lo0
  rw [show IntKind.u8.max = 255 by decide] at hi0
  have lt0 : ∀ x ∈ p0, x.block < W.heap.size := by obtain ⟨m, hm⟩ := h0; exact DataW.trod_lt m _ _ _ hm
  obtain ⟨x1, rfl⟩ := okWide_int Try.underlying32 (hval 1 32 v1 rfl rfl)
  obtain ⟨lo1, hi1⟩ := open_intk Try.underlying32 h1
  rw [show IntKind.u16.min = 0 by decide] at lo1
  rw [show IntKind.u16.max = 65535 by decide] at hi1
  have lt1 : ∀ x ∈ p1, x.block < W.heap.size := by obtain ⟨m, hm⟩ := h1; exact DataW.trod_lt m _ _ _ hm
  obtain ⟨x2, rfl⟩ := okWide_bool Try.underlying4 (hval 2 4 v2 rfl rfl)
  have lt2 : ∀ x ∈ p2, x.block < W.heap.size := by obtain ⟨m, hm⟩ := h2; exact DataW.trod_lt m _ _ _ hm
  have hmx : maxLen = 9223372036854775807 := by decide
  clear hA0 hval0
  refine (long_walk x0 x1 x2 W lo0 hi0 lo1 hi1).mono fun e W' ⟨he, bel⟩ => ?_
  subst he
  exact ⟨_, rfl, _, _, _, [], _, [], hW', trodAll_mk1 (shut_bool Try.underlying4 _), (trodAll_cons_mk (Below.trod laidOut (by kernel_rfl) (of_decide_eq_true (by kernel_rfl)) h0 bel lt0) (trodAll_cons_mk (Below.trod laidOut (by kernel_rfl) (of_decide_eq_true (by kernel_rfl)) h1 bel lt1) (trodAll_cons_mk (Below.trod laidOut (by kernel_rfl) (of_decide_eq_true (by kernel_rfl)) h2 bel lt2) trodAll_mk0))), rfl, bel.frame _, fun h => by cases h⟩

/-- RunsLong: it answers true. -/
theorem long_holds : Rows.RunsLongSaid :=
  OpenClaim.holds_of_wide 6 Try.f6 rfl rfl rfl rfl rfl rfl rfl ⟨rfl, rfl, rfl, rfl, rfl⟩ rfl rfl rfl rfl rfl (by kernel_rfl) Try.func6 (by kernel_rfl)
    (of_decide_eq_true (by kernel_rfl)) (by unfold Func.isWrapper; first | (rw [if_pos (by decide +kernel)]; kernel_rfl) | (rw [if_neg (by decide +kernel)]; exact ⟨rfl, rfl⟩))
    (fun os started H enc _ => long_lifted os started H enc)
#print axioms long_holds

end Go.Proofs.Ytnalaenanopnbaa
