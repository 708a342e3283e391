/- DeflateGreat: more bytes than a block holds stand in several, the last one marked. No condition on the input. -/
import Derived.Test.YtginbilakdenmaaLaw5Do
import Derived.Test.YtginbilakdenmaaDec5Z
namespace Go.Proofs.Ytginbilakdenmaa
open Go.ChangeShapes Go.WideShapes Go.ChangeAt Go.RowKit Go.Deep
set_option linter.unusedVariables false
set_option maxRecDepth 100000

theorem joinZ_len : ∀ ls : List (List Int), (joinZ ls).length = ls.flatten.length + 5 * ls.length
  | [] => rfl
  | [l] => by simp [joinZ]
  | l :: l' :: ls => by
    have := joinZ_len (l' :: ls)
    rw [joinZ_cons _ _ (by simp), List.length_append, List.length_append, this]
    simp [headZ]
    omega
theorem chF_flat : ∀ f zs, (chF f zs).flatten = zs
  | 0, zs => by simp [chF]
  | f + 1, zs => by
    rw [chF]
    split
    · simp
    · rw [List.flatten_cons, chF_flat f, List.take_append_drop]
theorem chF_short : ∀ f zs, zs.length ≤ f + 65535 → ∀ l ∈ chF f zs, l.length < 65536
  | 0, zs, h => fun l hl => by simp [chF] at hl; subst hl; omega
  | f + 1, zs, h => fun l hl => by
    rw [chF] at hl
    by_cases hc : zs.length ≤ 65535
    · rw [if_pos hc] at hl
      simp at hl
      subst hl
      omega
    · rw [if_neg hc] at hl
      rcases List.mem_cons.1 hl with rfl | hl
      · rw [List.length_take]; omega
      · exact chF_short f (zs.drop 65535) (by rw [List.length_drop]; omega) l hl
theorem chF_many : ∀ f zs, zs.length ≤ f + 65535 → (chF f zs).length = max 1 ((zs.length + 65534) / 65535)
  | 0, zs, h => by simp [chF]; omega
  | f + 1, zs, h => by
    rw [chF]
    split
    · simp; omega
    · have := chF_many f (zs.drop 65535) (by rw [List.length_drop]; omega)
      rw [List.length_cons, this, List.length_drop]
      omega
theorem chunks_back (zs : List Int) (hz : ∀ z ∈ zs, 0 ≤ z ∧ z < 256) (M : Nat) (hM : zs.length ≤ M) : blocksS (joinZ (chunksS zs)) M = (zs, (joinZ (chunksS zs)).length, 0) := by
  have hb := blocks_join (joinZ (chunksS zs)) M (bys_of _ (chF_rng _ _ hz (by omega))) (chunksS zs) 0 (8 * (joinZ (chunksS zs)).length + 1) [] [] (chF_ne _ _) (chF_short _ _ (by omega)) (by simp) (by unfold chunksS; rw [chF_flat]; simpa using hM) (by omega)
  unfold blocksS
  rw [Nat.mul_zero] at hb
  rw [hb]
  unfold chunksS
  rw [chF_flat]
  simp
theorem own_set (W : World) (g i : Nat) (X : List Int) (z : Int) (h : W.heap[g]? = some (.cells (u8s X).toArray 5 (0, 0))) : (W.setCell ⟨g, i, none⟩ (.int .u8 z)).heap[g]? = some (.cells (u8s (X.set i z)).toArray 5 (0, 0)) := by
  rw [heap_set W g i _ _ _ h, u8s, u8s, List.map_set]
theorem row_lt (W : World) (g : Nat) (o : Obj) (h : W.heap[g]? = some o) : g < W.heap.size := by
  rcases Nat.lt_or_ge g W.heap.size with hlt | hge
  · exact hlt
  · rw [Array.getElem?_eq_none hge] at h; cases h
theorem own_byt (W : World) (g n : Nat) (X : List Int) (h : W.heap[g]? = some (.cells (u8s X).toArray 5 (0, 0))) (hX : X.length = n) (hr : ∀ z ∈ X, 0 ≤ z ∧ z < 256) : Byt W W.heap.size (some ⟨g, 0, none⟩) n n X :=
  ⟨hX, Nat.le_refl _, hr, fun _ => ⟨g, 0, rfl, row_lt W g _ h, fun i hi => by
    rw [cell_of_row W g (0 + i) _ _ (0, 0) h]
    simp [u8s, List.getD, hX, hi]⟩⟩
theorem own_fr (W : World) (g i : Nat) (X : List Int) (h : W.heap[g]? = some (.cells (u8s X).toArray 5 (0, 0))) : W.frozen? ⟨g, i, none⟩ = false := by simp [World.frozen?, h]
theorem set_rng (X : List Int) (i : Nat) (z : Int) (hX : ∀ y ∈ X, 0 ≤ y ∧ y < 256) (hz : 0 ≤ z ∧ z < 256) : ∀ y ∈ X.set i z, 0 ≤ y ∧ y < 256 := fun y hy => by
  rcases List.mem_or_eq_of_mem_set hy with h | rfl
  · exact hX y h
  · exact hz
set_option maxHeartbeats 4000000 in
theorem great_walk (x0 x1 : Int) (w : World) (l0 : 0 ≤ x0) (h0 : x0 ≤ 4294967295) (l1 : 0 ≤ x1) (h1 : x1 ≤ 255) :
    Calls Try.prog 7 #[.int .u32 x0, .int .u8 x1] w fun e w' => e = .returned (.bool true) ∧ Below w.heap.size w w' := by
  have HAW := Lib.hid (awake_any w)
  obtain ⟨K, hK⟩ : ∃ K : Nat, x0 % 200000 = K := ⟨(x0 % 200000).toNat, by omega⟩
  have hK2 : x0.tmod 200000 = K := by rw [Int.tmod_eq_emod_of_nonneg l0]; exact hK
  have hKb : K < 200000 := by omega
  have hwx : IntKind.i64.wrap x0 = x0 := IntWalk.i64_in _ (by omega)
  have hwx2 : wrap64 x0 = x0 := by unfold wrap64; omega
  have HMK := Lib.hid (fun W => make_bytes K K W (Nat.le_refl _) (by omega))
  have hmk := fun W => HMK.out W
  clear HMK
  go_enter Try.func7, Try.ntmps7
  go_upto_region 6 with (go_at_call 9; refine HAW.out.mono ?_; (rintro r w0 ⟨rfl, hb0⟩); have HB0 := Lib.hid hb0; clear hb0)
  obtain ⟨g, hg⟩ : ∃ g, w0.heap.size = g := ⟨_, rfl⟩
  have hrow0 : (w0.alloc (.cells (u8s (List.replicate K 0)).toArray 5)).heap[g]? = some (.cells (u8s (List.replicate K 0)).toArray 5 (0, 0)) := by rw [← hg]; exact heap_alloc_new w0 _
  have HR0 := Lib.hid hrow0
  have HB1 := Lib.hid (HB0.out.alloc HB0.out.size (.cells (u8s (List.replicate K 0)).toArray 5))
  have HWG : Hid (w.heap.size ≤ g) := Lib.hid (by rw [← hg]; exact HB0.out.size)
  obtain ⟨W1, hW1⟩ : ∃ W1, w0.alloc (.cells (u8s (List.replicate K 0)).toArray 5) = W1 := ⟨_, rfl⟩
  rw [hW1] at HR0 HB1
  rw [hg, hW1]
  clear hrow0 hg hW1 hmk HAW hwx hwx2 hK hK2 HB0
  have hKi : (K : Int) < 200000 := by omega
  go_loopw [7] (fun iv wr => ∃ (i : Nat) (X : List Int), i ≤ K ∧ iv = .int .i64 i ∧ Hid (wr.heap[g]? = some (.cells (u8s X).toArray 5 (0, 0))) ∧ Hid (X.length = K ∧ ∀ z ∈ X, 0 ≤ z ∧ z < 256) ∧ Hid (Below w.heap.size w wr)) (fun iv _ => K - (intOf iv).toNat)
  case atStart => exact ⟨0, List.replicate K 0, Nat.zero_le _, rfl, HR0, Lib.hid ⟨by simp, fun z hz => by rw [List.eq_of_mem_replicate hz]; omega⟩, HB1⟩
  case round =>
    obtain ⟨i, X, hi, rfl, HR, HX, HB⟩ := hrel
    by_cases hlt : i < K
    · have hby := own_byt wr g K X HR.out HX.out.1 HX.out.2
      obtain ⟨b', o', e, _, hc⟩ := hby.cell (by omega)
      injection e with e
      injection e with e1 e2
      subst e1 e2
      have ki := hc i hlt
      rw [Nat.zero_add] at ki
      have fi := own_fr wr g i X HR.out
      have hli : (i : Int) < K := by omega
      clear hby hc
      go_wp2_with fail
      go_roundw
      case rel => exact ⟨i + 1, X.set i _, hlt, by go_num, Lib.hid (own_set wr g i X _ HR.out), Lib.hid ⟨by rw [List.length_set]; exact HX.out.1, set_rng X i _ HX.out.2 (by first | omega | (simp only [IntKind.wrap_u8]; omega))⟩, Lib.hid (HB.out.trans ((Only.refl g wr).set_ i _ |>.belowB HWG.out (Nat.le_of_lt (row_lt wr g _ HR.out))))⟩
      case measure => simp [intOf]; omega
    · obtain rfl : i = K := by omega
      have hxl := HX.out.1
      have hxr := HX.out.2
      have hby := own_byt wr g i X HR.out hxl hxr
      have hmany := chF_many X.length X (by omega)
      have hjl := joinZ_len (chunksS X)
      have hback := chunks_back X hxr i (by omega)
      have hst := pStored (some ⟨g, 0, none⟩) i i X wr hby (by omega)
      have hfl : (chunksS X).flatten.length = i := by unfold chunksS; rw [chF_flat]; exact hxl
      obtain ⟨N, hN⟩ : ∃ N, (chunksS X).length = N := ⟨_, rfl⟩
      unfold chunksS at hN
      rw [hN, hxl] at hmany
      rw [hfl] at hjl
      have hjl2 : (joinZ (chunksS X)).length = i + 5 * N := by rw [hjl]; unfold chunksS; rw [hN]
      obtain ⟨J, hJ⟩ : ∃ J, joinZ (chunksS X) = J := ⟨_, rfl⟩
      rw [hJ] at hst hback hjl2
      obtain ⟨p, hp⟩ : ∃ p, J.length = p := ⟨_, rfl⟩
      rw [hp] at hst hback hjl2
      obtain ⟨Q, hQ⟩ : ∃ Q, (i + 65534) / 65535 = Q := ⟨_, rfl⟩
      rw [hQ] at hmany
      have q1 : ((i : Int) + 65534).tdiv 65535 = Q := by rw [Int.tdiv_eq_ediv_of_nonneg (by omega)]; omega
      have q2 : ((i : Int) + 65534) / 65535 = Q := by omega
      have q3 : max (1 : Int) Q = N := by omega
      have hNb : (N : Int) ≤ 10 := by omega
      have ht : ((p : Int) != (i : Int) + 5 * N) = false := by rw [show (i : Int) + 5 * N = p by omega]; simp
      have HST := Lib.hid hst
      have HBK := Lib.hid (fun W A1 c1 (hW : Byt W W.heap.size A1 p c1 J) => by
        have := refBlocks A1 p c1 i i J W hW (by omega) (by omega) (by omega) (by omega)
        rw [hback] at this
        exact this)
      have HLT := Lib.hid (row_lt wr g _ HR.out)
      clear hst hback hby hmany hjl hfl hN hjl2 hJ hp hQ hxr
      go_upto_region 14 with (first
        | (go_at_call 14; refine HST.out.mono ?_; (rintro r w2 ⟨v2, rfl, hm2, hb2⟩); obtain ⟨A2, c2, rfl, hy2⟩ := hm2.byt; have HY2 := Lib.hid hy2; have HB2 := Lib.hid hb2; clear hm2 hb2 hy2)
        | (go_at_call 24; refine (HBK.out _ _ _ HY2.out).mono ?_; (rintro r w3 ⟨A3, c3, rfl, hy3, _, hb3⟩); have HY3 := Lib.hid hy3; have HB3 := Lib.hid (HB2.out.trans (hb3.mono HB2.out.size)); clear hy3 hb3))
      have hend := HB.out.trans (HB3.out.mono HB.out.size)
      have hy3 := HY3.out
      rw [hxl] at hy3
      have hyb := (own_byt wr g i X HR.out HX.out.1 HX.out.2).below HB3.out (Nat.le_refl _)
      have HEND := Lib.hid hend
      clear hend HY3 q1 q2 q3 ht
      rcases Nat.eq_zero_or_pos i with h0 | h0
      · subst h0
        clear hy3 hyb
        go_quiet (fail)
        go_wp2
        go_ret
        exact ⟨rfl, below_drewN HEND.out _⟩
      · obtain ⟨j, rfl⟩ : ∃ j, i = j + 1 := ⟨i - 1, by omega⟩
        obtain ⟨b3, o3, rfl, hlt3, hc3⟩ := hy3.cell h0
        obtain ⟨b4, o4, e4, hlt4, hc4⟩ := hyb.cell h0
        injection e4 with e4
        injection e4 with e5 e6
        subst e5 e6
        have k3 := hc3 j (by omega)
        have k4 := hc4 j (by omega)
        obtain ⟨z, hz⟩ : ∃ z, X.getD j 0 = z := ⟨_, rfl⟩
        rw [hz] at k3 k4
        have j1 : (j : Int) + 1 - 1 = j := by omega
        have j2 : IntKind.i64.wrap (((j + 1 : Nat) : Int) - 1) = j := by rw [IntWalk.i64_in _ (by omega)]; omega
        have j3 : IntKind.i64.wrap (((j : Int) + 1) - 1) = j := by rw [IntWalk.i64_in _ (by omega)]; omega
        have j4 : ¬ ((j : Int) + 1 = 0) := by omega
        have j5 : IntKind.i64.wrap (j : Int) = j := IntWalk.i64_in _ (by omega)
        have j6 : (0 : Int) ≤ (j : Int) := by omega
        have j7 : (j : Int).toNat = j := by omega
        have j8 : (j : Int) < (j : Int) + 1 := by omega
        rw [Nat.zero_add] at k4
        clear hc3 hc4 hy3 hyb hz hxl HX
        go_quiet (fail)
        go_wp2
        go_ret
        exact ⟨rfl, below_drewN HEND.out _⟩
set_option maxRecDepth 100000 in
theorem great_lifted (os : Os) (started : os.Started) (H : Type) (enc : TypeId × Value → H) :
    ReturnsInHanded {} Try.checked os 7 .any (Rows.deflateGreatSpec.pre6 enc Try.prog Try.f7 Rows.deflateGreatRow.domain false) (Rows.deflateGreatSpec.post enc Try.prog Try.f7 false true false false) := by
  refine returnsInHanded_of_change (C := Try.checked) own started (by kernel_rfl) Try.func7
    (ChangeSpec.witness6 (enc := enc) (C := Try.checked) false ⟨#[], #[.int .u32 0, .int .u8 0], []⟩ 8 (by kernel_rfl) (by kernel_rfl) (by kernel_rfl) (by kernel_rfl)) ?_
  intro W base args ds gs before hval0 hW hcnd _
  have hval : ∀ (j : Nat) t v, Try.f7.params[j]? = some t → args[j]? = some v → Value.okWide Try.prog W .any base t v := hval0
  have hW' := hW
  obtain ⟨p, q, hA0, hV, rfl, hfz, hnd⟩ := hW
  have hA : DataW.TrodAll enc Try.prog W 0 (fun _ => true) true Try.f7.params.toList args.toList ds p := hA0
  rw [Try.params7] at hA hval
  obtain ⟨v0, vs0, d0, ds0, p0, q0, hargs, rfl, rfl, h0, r0⟩ := trodAll_cons hA
  obtain ⟨v1, vs1, d1, ds1, p1, q1, rfl, rfl, rfl, h1, r1⟩ := trodAll_cons r0
  obtain ⟨rfl, rfl, rfl⟩ := trodAll_nil r1
  obtain rfl : args = #[v0, v1] := by cases args; simp_all
  obtain ⟨rfl, rfl⟩ := trodVars_none hV
  obtain ⟨x0, rfl⟩ := okWide_int Try.underlying42 (hval 0 42 v0 rfl rfl)
  obtain ⟨lo0, hi0⟩ := open_intk Try.underlying42 h0
  rw [show IntKind.u32.min = 0 by decide] at lo0
  rw [show IntKind.u32.max = 4294967295 by decide] at hi0
  have lt0 : ∀ x ∈ p0, x.block < W.heap.size := by obtain ⟨m, hm⟩ := h0; exact DataW.trod_lt m _ _ _ hm
  obtain ⟨x1, rfl⟩ := okWide_int Try.underlying5 (hval 1 5 v1 rfl rfl)
  obtain ⟨lo1, hi1⟩ := open_intk Try.underlying5 h1
  rw [show IntKind.u8.min = 0 by decide] at lo1
  rw [show IntKind.u8.max = 255 by decide] at hi1
  have lt1 : ∀ x ∈ p1, x.block < W.heap.size := by obtain ⟨m, hm⟩ := h1; exact DataW.trod_lt m _ _ _ hm
  have hmx : maxLen = 9223372036854775807 := by decide
  clear hA0 hval0
  refine (great_walk x0 x1 W lo0 hi0 lo1 hi1).mono fun e W' ⟨he, bel⟩ => ?_
  subst he
  exact ⟨_, rfl, _, _, _, [], _, [], hW', trodAll_mk1 (shut_bool Try.underlying4 _), (trodAll_cons_mk (Below.trod laidOut (by kernel_rfl) (of_decide_eq_true (by kernel_rfl)) h0 bel lt0) (trodAll_cons_mk (Below.trod laidOut (by kernel_rfl) (of_decide_eq_true (by kernel_rfl)) h1 bel lt1) trodAll_mk0)), rfl, bel.frame _, fun h => by cases h⟩

/-- DeflateGreat: it answers true. -/
theorem great_holds : Rows.DeflateGreatSaid :=
  OpenClaim.holds_of_wide 7 Try.f7 rfl rfl rfl rfl rfl rfl rfl ⟨rfl, rfl, rfl, rfl, rfl⟩ rfl rfl rfl rfl rfl (by kernel_rfl) Try.func7 (by kernel_rfl)
    (of_decide_eq_true (by kernel_rfl)) (by unfold Func.isWrapper; first | (rw [if_pos (by decide +kernel)]; kernel_rfl) | (rw [if_neg (by decide +kernel)]; exact ⟨rfl, rfl⟩))
    (fun os started H enc _ => great_lifted os started H enc)
#print axioms great_holds

end Go.Proofs.Ytginbilakdenmaa
