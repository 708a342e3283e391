/- LzwRuns: a row of one byte, however long, is written by codes that grow by one, and read. No condition on the input. -/
import Derived.Test.YtpnnejedfccckaaLaw8Do
import Derived.Test.YtpnnejedfccckaaMd7
namespace Go.Proofs.Ytpnnejedfccckaa
open Go.ChangeShapes Go.WideShapes Go.ChangeAt Go.RowKit Go.Deep
set_option linter.unusedVariables false
set_option maxRecDepth 100000

theorem rep_of (c : Int) (X : List Int) (K : Nat) (hX : X.length = K) (h : ∀ j, j < K → X.getD j 0 = c) : X = List.replicate K c := by
  apply list_eq_of_getD
  · rw [List.length_replicate, hX]
  · intro i hi
    rw [h i (by omega), getD_eq _ i (by rw [List.length_replicate]; omega), List.getElem_replicate]
set_option maxHeartbeats 4000000 in
theorem runs_walk (c0 n0 : Int) (w : World) (l1 : 0 ≤ c0) (h1 : c0 ≤ 255) (l0 : 0 ≤ n0) (h0 : n0 ≤ 65535) :
    Calls Try.prog 7 #[.int .u8 c0, .int .u16 n0] w fun e w' => e = .returned (.bool true) ∧ Below w.heap.size w w' := by
  have HCR : Hid (0 ≤ c0 ∧ c0 < 256) := Lib.hid (by omega)
  have HAW := Lib.hid (awake_any w)
  obtain ⟨K, hK⟩ : ∃ K : Nat, n0 % 9000 = K := ⟨(n0 % 9000).toNat, by omega⟩
  have hK2 : n0.tmod 9000 = K := by rw [Int.tmod_eq_emod_of_nonneg l0]; exact hK
  have hKb : K < 9000 := by omega
  have hwx : IntKind.i64.wrap n0 = n0 := IntWalk.i64_in _ (by omega)
  have hwx2 : wrap64 n0 = n0 := by unfold wrap64; omega
  have HMK := Lib.hid (fun W => make_bytes K K W (Nat.le_refl _) (by omega))
  have hmk := fun W => HMK.out W
  clear HMK
  go_enter Try.func7, Try.ntmps7
  go_upto_region 6 with (go_at_call 8; refine HAW.out.mono ?_; (rintro r w0 ⟨rfl, hb0⟩); have HB0 := Lib.hid hb0; clear hb0)
  obtain ⟨g, hg⟩ : ∃ g, w0.heap.size = g := ⟨_, rfl⟩
  have hrow0 : (w0.alloc (.cells (u8s (List.replicate K 0)).toArray 5)).heap[g]? = some (.cells (u8s (List.replicate K 0)).toArray 5 (0, 0)) := by rw [← hg]; exact heap_alloc_new w0 _
  have HR0 := Lib.hid hrow0
  have HB1 := Lib.hid (HB0.out.alloc HB0.out.size (.cells (u8s (List.replicate K 0)).toArray 5))
  have HWG : Hid (w.heap.size ≤ g) := Lib.hid (by rw [← hg]; exact HB0.out.size)
  obtain ⟨W1, hW1⟩ : ∃ W1, w0.alloc (.cells (u8s (List.replicate K 0)).toArray 5) = W1 := ⟨_, rfl⟩
  rw [hW1] at HR0 HB1
  rw [hg, hW1]
  clear hrow0 hg hW1 hmk HAW hwx hwx2 hK hK2 HB0
  have hKi : (K : Int) < 9000 := by omega
  go_loopw [7] (fun iv wr => ∃ (i : Nat) (X : List Int), i ≤ K ∧ iv = .int .i64 i ∧ Hid (wr.heap[g]? = some (.cells (u8s X).toArray 5 (0, 0))) ∧ Hid (X.length = K ∧ ∀ z ∈ X, 0 ≤ z ∧ z < 256) ∧ Hid (∀ j, j < i → X.getD j 0 = c0) ∧ Hid (Below w.heap.size w wr)) (fun iv _ => K - (intOf iv).toNat)
  case atStart => exact ⟨0, List.replicate K 0, Nat.zero_le _, rfl, HR0, Lib.hid ⟨by simp, fun z hz => by rw [List.eq_of_mem_replicate hz]; omega⟩, Lib.hid (fun j hj => by omega), HB1⟩
  case round =>
    obtain ⟨i, X, hi, rfl, HR, HX, HP, HB⟩ := hrel
    by_cases hlt : i < K
    · have hby := own_byt wr g K X HR.out HX.out.1 HX.out.2
      obtain ⟨b', o', e, _, hc⟩ := hby.cell (by omega)
      injection e with e
      injection e with e1 e2
      subst e1 e2
      have ki := hc i hlt
      rw [Nat.zero_add] at ki
      have fi := own_fr wr g i X HR.out
      have hli : (i : Int) < K := by omega
      clear hby hc
      go_wp2_with fail
      go_roundw
      case rel =>
        refine ⟨i + 1, X.set i c0, hlt, by go_num, Lib.hid (own_set wr g i X c0 HR.out), Lib.hid ⟨by rw [List.length_set]; exact HX.out.1, set_rng X i _ HX.out.2 HCR.out⟩, Lib.hid (fun j hj => ?_), Lib.hid (HB.out.trans ((Only.refl g wr).set_ i _ |>.belowB HWG.out (Nat.le_of_lt (row_lt wr g _ HR.out))))⟩
        rw [set_getD X i j c0 (by rw [HX.out.1]; exact hlt)]
        split
        · rfl
        · exact HP.out j (by omega)
      case measure => simp [intOf]; omega
    · obtain rfl : i = K := by omega
      have hxl := HX.out.1
      have hxr := HX.out.2
      have hrep := rep_of c0 X i hxl HP.out
      have hby := own_byt wr g i X HR.out hxl hxr
      have hfx := pEncode (some ⟨g, 0, none⟩) i i X wr hby (by omega)
      have hrd : lzDec (max (i : Int) 0).toNat (lzEnc X) = (X, 0) := by
        have := lz_back (max (i : Int) 0).toNat X [] hxr
        rw [List.append_nil, if_pos (by omega)] at this
        exact this
      have hel : ∀ t, i ≤ t * (t + 1) / 2 → t < 3838 → (lzEnc X).length ≤ (12 * (t + 1) + 16) / 8 := fun t h1 h2 => by rw [hrep]; exact lzEnc_rep c0 i t h1 h2
      have hel9 : (lzEnc X).length ≤ 28000 := by
        have := hel 200 (by omega) (by omega)
        omega
      obtain ⟨E, hE⟩ : ∃ E, lzEnc X = E := ⟨_, rfl⟩
      rw [hE] at hfx hrd hel hel9
      obtain ⟨L, hL⟩ : ∃ L, E.length = L := ⟨_, rfl⟩
      rw [hL] at hfx hel hel9
      have HEL := Lib.hid hel
      have HFX := Lib.hid hfx
      have HBK := Lib.hid (fun W A1 c1 (hW : Byt W W.heap.size A1 L c1 E) => pDecode A1 L c1 i E W hW (by omega) (by omega) (by omega) (X, 0) hrd)
      have HXL := Lib.hid hxl
      have HBY := Lib.hid hby
      have hi63 : i ≤ 9223372036854775807 := by omega
      clear hfx hby hel hE hL hrd hxr hxl HX HR0 HB1 HP hrep
      go_wp2_with (first
        | (go_at_call 11; refine HFX.out.mono ?_; (rintro r w2 ⟨v2, rfl, hm2, hb2⟩); obtain ⟨A2, c2, rfl, hy2⟩ := hm2.byt; have HY2 := Lib.hid hy2; have HB2 := Lib.hid hb2; clear hm2 hb2 hy2)
        | (go_at_call 9; refine (HBK.out _ _ _ HY2.out).mono ?_; intro r w3 hr3; obtain ⟨A3, c3, rfl, hy3, hb3⟩ := hr3.at8 HXL.out; clear hr3; have HBB := Lib.hid (HB2.out.trans (hb3.mono HB2.out.size)); have HE1 := Lib.hid (refSame_yes A3 (some ⟨g, 0, none⟩) i c3 _ i _ X w3 hy3 (HBY.out.below HBB.out (Nat.le_refl _)) hi63); have HB3 := Lib.hid (HB.out.trans (HBB.out.mono HB.out.size)); clear hy3 hb3))
      go_loopw [11] (fun tv wq => ∃ (t : Nat), t ≤ i ∧ tv = .int .i64 t ∧ Hid (t = 0 ∨ (t - 1) * t / 2 < i) ∧ wq = w3) (fun tv _ => i - (intOf tv).toNat)
      case atStart => exact ⟨0, Nat.zero_le _, rfl, Lib.hid (.inl rfl), rfl⟩
      case round =>
        obtain ⟨t, ht, rfl, HT, rfl⟩ := hrel
        obtain ⟨P, hP⟩ : ∃ P, t * (t + 1) = P := ⟨_, rfl⟩
        have hPb : P ≤ 9000 * 9001 := by rw [← hP]; exact Nat.mul_le_mul (by omega) (by omega)
        have hPt : 2 * t ≤ P ∨ t = 0 := by
          rw [← hP]
          rcases Nat.eq_zero_or_pos t with h | h
          · exact .inr h
          · have : t * 2 ≤ t * (t + 1) := Nat.mul_le_mul_left t (by omega)
            exact .inl (by omega)
        have eP : (t : Int) * ((t : Int) + 1) = P := by rw [← hP]; simp
        obtain ⟨H, hH⟩ : ∃ H, P / 2 = H := ⟨_, rfl⟩
        have e1 : (P : Int).tdiv 2 = H := by rw [Int.tdiv_eq_ediv_of_nonneg (by omega)]; omega
        have e2 : (P : Int) / 2 = H := by omega
        have wP : IntKind.i64.wrap (P : Int) = P := IntWalk.i64_in _ (by omega)
        have wH : IntKind.i64.wrap (H : Int) = H := IntWalk.i64_in _ (by omega)
        have w1 : IntKind.i64.wrap ((t : Int) + 1) = (t : Int) + 1 := IntWalk.i64_in _ (by omega)
        have HHP := Lib.hid hP
        have HHH := Lib.hid hH
        by_cases hgo : H < i
        · have hgi : (H : Int) < i := by omega
          have htl : t < i := by omega
          have HT2 : Hid (t + 1 = 0 ∨ (t + 1 - 1) * (t + 1) / 2 < i) := Lib.hid (.inr (by rw [Nat.add_sub_cancel, hP, hH]; exact hgo))
          clear hP hH
          go_wp2_with fail
          go_roundw
          case rel => exact ⟨t + 1, by omega, by go_num, HT2, by first | trivial | rfl⟩
          case measure => simp [intOf]; omega
        · have hgi : ¬ (H : Int) < i := by omega
          have hgd : decide ((H : Int) < i) = false := decide_eq_false hgi
          have ht9 : t < 3838 := by
            rcases HT.out with h | h
            · omega
            · rcases Nat.lt_or_ge t 3838 with h2 | h2
              · exact h2
              · have : 3837 * 3838 ≤ (t - 1) * t := Nat.mul_le_mul (by omega) h2
                omega
          have hfin := HEL.out t (by rw [hP, hH]; omega) ht9
          obtain ⟨Q2, hQ2⟩ : ∃ Q2, ((t + 2) * 12) / 8 = Q2 := ⟨_, rfl⟩
          have f1 : ((t : Int) + 2) * 12 = (((t + 2) * 12 : Nat) : Int) := by omega
          have f2 : (((t : Int) + 2) * 12).tdiv 8 = Q2 := by rw [Int.tdiv_eq_ediv_of_nonneg (by omega)]; omega
          have f3 : (((t : Int) + 2) * 12) / 8 = Q2 := by omega
          have f4 : IntKind.i64.wrap ((t : Int) + 2) = (t : Int) + 2 := IntWalk.i64_in _ (by omega)
          have f5 : IntKind.i64.wrap (((t : Int) + 2) * 12) = ((t : Int) + 2) * 12 := IntWalk.i64_in _ (by omega)
          have f6 : IntKind.i64.wrap ((Q2 : Int) + 2) = (Q2 : Int) + 2 := IntWalk.i64_in _ (by omega)
          have f7 : (L : Int) ≤ (Q2 : Int) + 2 := by omega
          clear hP hH f1 hQ2 hfin
          go_wp2_with (go_at_call 10; with_reducible refine HE1.out.mono ?_; (rintro r w4 ⟨rfl, q4', rfl⟩))
          go_ret
          exact ⟨rfl, below_drewN HB3.out _⟩
set_option maxRecDepth 100000 in
theorem runs_lifted (os : Os) (started : os.Started) (H : Type) (enc : TypeId × Value → H) :
    ReturnsInHanded {} Try.checked os 7 .any (Rows.lzwRunsSpec.pre6 enc Try.prog Try.f7 Rows.lzwRunsRow.domain false) (Rows.lzwRunsSpec.post enc Try.prog Try.f7 false true false false) := by
  refine returnsInHanded_of_change (C := Try.checked) own started (by kernel_rfl) Try.func7
    (ChangeSpec.witness6 (enc := enc) (C := Try.checked) false ⟨#[], #[.int .u8 0, .int .u16 0], []⟩ 8 (by kernel_rfl) (by kernel_rfl) (by kernel_rfl) (by kernel_rfl)) ?_
  intro W base args ds gs before hval0 hW hcnd _
  have hval : ∀ (j : Nat) t v, Try.f7.params[j]? = some t → args[j]? = some v → Value.okWide Try.prog W .any base t v := hval0
  have hW' := hW
  obtain ⟨p, q, hA0, hV, rfl, hfz, hnd⟩ := hW
  have hA : DataW.TrodAll enc Try.prog W 0 (fun _ => true) true Try.f7.params.toList args.toList ds p := hA0
  rw [Try.params7] at hA hval
  obtain ⟨v0, vs0, d0, ds0, p0, q0, hargs, rfl, rfl, h0, r0⟩ := trodAll_cons hA
  obtain ⟨v1, vs1, d1, ds1, p1, q1, rfl, rfl, rfl, h1, r1⟩ := trodAll_cons r0
  obtain ⟨rfl, rfl, rfl⟩ := trodAll_nil r1
  obtain rfl : args = #[v0, v1] := by cases args; simp_all
  obtain ⟨rfl, rfl⟩ := trodVars_none hV
  obtain ⟨x0, rfl⟩ := okWide_int Try.underlying5 (hval 0 5 v0 rfl rfl)
  obtain ⟨lo0, hi0⟩ := open_intk Try.underlying5 h0
  rw [show IntKind.u8.min = 0 by decide] at lo0
  rw [show IntKind.u8.max = 255 by decide] at hi0
  have lt0 : ∀ x ∈ p0, x.block < W.heap.size := by obtain ⟨m, hm⟩ := h0; exact DataW.trod_lt m _ _ _ hm
  obtain ⟨x1, rfl⟩ := okWide_int Try.underlying32 (hval 1 32 v1 rfl rfl)
  obtain ⟨lo1, hi1⟩ := open_intk Try.underlying32 h1
  rw [show IntKind.u16.min = 0 by decide] at lo1
  rw [show IntKind.u16.max = 65535 by decide] at hi1
  have lt1 : ∀ x ∈ p1, x.block < W.heap.size := by obtain ⟨m, hm⟩ := h1; exact DataW.trod_lt m _ _ _ hm
  have hmx : maxLen = 9223372036854775807 := by decide
  clear hA0 hval0
  refine (runs_walk x0 x1 W lo0 hi0 lo1 hi1).mono fun e W' ⟨he, bel⟩ => ?_
  subst he
  exact ⟨_, rfl, _, _, _, [], _, [], hW', trodAll_mk1 (shut_bool Try.underlying4 _), (trodAll_cons_mk (Below.trod laidOut (by kernel_rfl) (of_decide_eq_true (by kernel_rfl)) h0 bel lt0) (trodAll_cons_mk (Below.trod laidOut (by kernel_rfl) (of_decide_eq_true (by kernel_rfl)) h1 bel lt1) trodAll_mk0)), rfl, bel.frame _, fun h => by cases h⟩

/-- LzwRuns: it answers true. -/
theorem runs_holds : Rows.LzwRunsSaid :=
  OpenClaim.holds_of_wide 7 Try.f7 rfl rfl rfl rfl rfl rfl rfl ⟨rfl, rfl, rfl, rfl, rfl⟩ rfl rfl rfl rfl rfl (by kernel_rfl) Try.func7 (by kernel_rfl)
    (of_decide_eq_true (by kernel_rfl)) (by unfold Func.isWrapper; first | (rw [if_pos (by decide +kernel)]; kernel_rfl) | (rw [if_neg (by decide +kernel)]; exact ⟨rfl, rfl⟩))
    (fun os started H enc _ => runs_lifted os started H enc)
#print axioms runs_holds

end Go.Proofs.Ytpnnejedfccckaa
