/- DeflateRuns: a row of one byte, or of a few that come again and again, is written in a few bits for each 258. No condition on the input. -/
import Derived.Test.YtginbilakdenmaaLaw5Great
import Derived.Test.YtginbilakdenmaaRun5
namespace Go.Proofs.Ytginbilakdenmaa
open Go.ChangeShapes Go.WideShapes Go.ChangeAt Go.RowKit Go.Deep
set_option linter.unusedVariables false
set_option maxRecDepth 100000

theorem set_getD (X : List Int) (i j : Nat) (z : Int) (hi : i < X.length) : (X.set i z).getD j 0 = if j = i then z else X.getD j 0 := by
  by_cases h : j = i
  · subst h; rw [if_pos rfl]; simp [List.getD, hi]
  · rw [if_neg h]; simp only [List.getD]; rw [List.getElem?_set_ne (fun e => h e.symm)]
theorem runBlocks (n k : Nat) (Z zs : List Int) (p : Nat) (hp : Z.length = p) (hp2 : p ≤ 1000000) (hl : zs.length = n) (hn : n ≤ 1000000) (h : blocksS Z n = (zs, k, 0)) (W : World) (A1 : Option Addr) (c1 : Nat) (hW : Byt W W.heap.size A1 p c1 Z) :
    Calls Try.prog 24 #[.slice A1 p c1, .int .i64 (n : Int)] W fun r w' => ∃ A' c', r = .returned (.tuple #[.slice A' n c', .int .i64 (k : Int), .int .i64 0]) ∧ Byt w' w'.heap.size A' n c' zs ∧ Below W.heap.size W w' := by
  have := refBlocks A1 p c1 n n Z W hW (by omega) (by omega) (by omega) (by omega)
  rw [h] at this
  exact this.mono fun r w' ⟨A', c', h1, h2, _, h4⟩ => ⟨A', c', by rw [h1, ← hl], by rw [← hl]; exact h2, h4⟩
set_option maxHeartbeats 4000000 in
theorem runs_walk (A : Option Addr) (n c : Nat) (zs : List Int) (x0 : Int) (w : World) (hb : Byt w w.heap.size A n c zs) (hn : n ≤ 9223372036854775807) (l0 : 0 ≤ x0) (h0 : x0 ≤ 65535) :
    Calls Try.prog 8 #[.slice A n c, .int .u16 x0] w fun e w' => e = .returned (.bool true) ∧ Below w.heap.size w w' := by
  have HAW := Lib.hid (awake_any w)
  by_cases hok : 0 < n ∧ n ≤ 64
  · obtain ⟨n0, n64⟩ := hok
    have hn0i : ¬ (n : Int) = 0 := by omega
    have hn0b : ((n : Int) == 0) = false := beq_eq_false_iff_ne.2 hn0i
    have hn64i : ¬ (64 : Int) < n := by omega
    have hn64b : decide ((64 : Int) < n) = false := decide_eq_false hn64i
    have HB := Lib.hid (fun W (hW : Below w.heap.size w W) => hb.below hW (Nat.le_refl _))
    obtain ⟨K, hK⟩ : ∃ K : Nat, x0 % 3000 = K := ⟨(x0 % 3000).toNat, by omega⟩
    have hK2 : x0.tmod 3000 = K := by rw [Int.tmod_eq_emod_of_nonneg l0]; exact hK
    have hKb : K < 3000 := by omega
    have hwx : IntKind.i64.wrap x0 = x0 := IntWalk.i64_in _ (by omega)
    have hwx2 : wrap64 x0 = x0 := by unfold wrap64; omega
    have HMK := Lib.hid (fun W => make_bytes K K W (Nat.le_refl _) (by omega))
    have hmk := fun W => HMK.out W
    have HRG := Lib.hid hb.rng
    have HLEN := Lib.hid hb.len
    clear HMK hb
    go_enter Try.func8, Try.ntmps8
    go_upto_region 8 with (go_at_call 9; refine HAW.out.mono ?_; (rintro r w0 ⟨rfl, hb0⟩); have HB0 := Lib.hid hb0; clear hb0)
    obtain ⟨g, hg⟩ : ∃ g, w0.heap.size = g := ⟨_, rfl⟩
    have hrow0 : (w0.alloc (.cells (u8s (List.replicate K 0)).toArray 5)).heap[g]? = some (.cells (u8s (List.replicate K 0)).toArray 5 (0, 0)) := by rw [← hg]; exact heap_alloc_new w0 _
    have HR0 := Lib.hid hrow0
    have HB1 := Lib.hid (HB0.out.alloc HB0.out.size (.cells (u8s (List.replicate K 0)).toArray 5))
    have HWG : Hid (w.heap.size ≤ g) := Lib.hid (by rw [← hg]; exact HB0.out.size)
    obtain ⟨W1, hW1⟩ : ∃ W1, w0.alloc (.cells (u8s (List.replicate K 0)).toArray 5) = W1 := ⟨_, rfl⟩
    rw [hW1] at HR0 HB1
    rw [hg, hW1]
    clear hrow0 hg hW1 hmk HAW hwx hwx2 hK hK2 HB0
    have hKi : (K : Int) < 3000 := by omega
    go_loopw [7] (fun iv wr => ∃ (i : Nat) (X : List Int), i ≤ K ∧ iv = .int .i64 i ∧ Hid (wr.heap[g]? = some (.cells (u8s X).toArray 5 (0, 0))) ∧ Hid (X.length = K ∧ ∀ z ∈ X, 0 ≤ z ∧ z < 256) ∧ Hid (∀ j, j < i → X.getD j 0 = zs.getD (j % n) 0) ∧ Hid (Below w.heap.size w wr)) (fun iv _ => K - (intOf iv).toNat)
    case atStart => exact ⟨0, List.replicate K 0, Nat.zero_le _, rfl, HR0, Lib.hid ⟨by simp, fun z hz => by rw [List.eq_of_mem_replicate hz]; omega⟩, Lib.hid (fun j hj => by omega), HB1⟩
    case round =>
      obtain ⟨i, X, hi, rfl, HR, HX, HP, HBE⟩ := hrel
      by_cases hlt : i < K
      · have hby := own_byt wr g K X HR.out HX.out.1 HX.out.2
        obtain ⟨b', o', e, _, hc⟩ := hby.cell (by omega)
        injection e with e
        injection e with e1 e2
        subst e1 e2
        have ki := hc i hlt
        rw [Nat.zero_add] at ki
        have fi := own_fr wr g i X HR.out
        have hli : (i : Int) < K := by omega
        have hpy := HB.out wr HBE.out
        obtain ⟨b1, o1, rfl, hbl1, hcp⟩ := hpy.cell n0
        have hml := Nat.mod_lt i n0
        have cp := hcp (i % n) hml
        have hzr : 0 ≤ zs.getD (i % n) 0 ∧ zs.getD (i % n) 0 < 256 := by
          have hil : i % n < zs.length := by rw [HLEN.out]; exact hml
          rw [show zs.getD (i % n) 0 = zs[i % n] by simp [List.getD, hil]]
          exact HRG.out _ (List.getElem_mem hil)
        have hq : (i : Int) % (n : Int) = ((i % n : Nat) : Int) := rfl
        have hq' : (i : Int).tmod (n : Int) = ((i % n : Nat) : Int) := by rw [Int.tmod_eq_emod_of_nonneg (by omega)]; rfl
        obtain ⟨z, hz⟩ : ∃ z, zs.getD (i % n) 0 = z := ⟨_, rfl⟩
        have HZ := Lib.hid hz
        rw [hz] at cp hzr
        obtain ⟨q, hqq⟩ : ∃ q, i % n = q := ⟨_, rfl⟩
        have HQQ := Lib.hid hqq
        rw [hqq] at hq hq' cp hml
        obtain ⟨z0, z1⟩ := hzr
        clear hby hc hcp hz hpy hqq
        go_wp2_with fail
        go_roundw
        case rel =>
          refine ⟨i + 1, X.set i z, hlt, by go_num, Lib.hid (own_set wr g i X z HR.out), Lib.hid ⟨by rw [List.length_set]; exact HX.out.1, set_rng X i _ HX.out.2 ⟨z0, z1⟩⟩, Lib.hid (fun j hj => ?_), Lib.hid (HBE.out.trans ((Only.refl g wr).set_ i _ |>.belowB HWG.out (Nat.le_of_lt (row_lt wr g _ HR.out))))⟩
          rw [set_getD X i j z (by rw [HX.out.1]; exact hlt)]
          split
          · rename_i e; rw [e, HZ.out]
          · exact HP.out j (by omega)
        case measure => simp [intOf]; omega
      · obtain rfl : i = K := by omega
        have hxl := HX.out.1
        have hxr := HX.out.2
        have hby := own_byt wr g i X HR.out hxl hxr
        have hsz := runs_size X n hxr (per_of zs X n n0 (fun j hj => HP.out j (by omega))) (by omega) n64
        have hfull := fix_full X [] i hxr (by omega)
        rw [List.append_nil] at hfull
        have hfx := pFixed (some ⟨g, 0, none⟩) i i X wr hby (by omega)
        obtain ⟨J, hJ⟩ : ∃ J, fixedS X = J := ⟨_, rfl⟩
        rw [hJ] at hfx hfull hsz
        obtain ⟨p, hp⟩ : ∃ p, J.length = p := ⟨_, rfl⟩
        rw [hp] at hfx hfull hsz
        rw [hxl] at hsz
        obtain ⟨Q, hQ⟩ : ∃ Q, i / 258 = Q := ⟨_, rfl⟩
        rw [hQ] at hsz
        have q1 : (i : Int).tdiv 258 = Q := by rw [Int.tdiv_eq_ediv_of_nonneg (by omega)]; omega
        have q2 : (i : Int) / 258 = Q := by omega
        have hQb : (Q : Int) ≤ 12 := by omega
        have ht : (p : Int) ≤ 2 * (n : Int) + 5 + 4 * ((Q : Int) + 1) := by omega
        have HFX := Lib.hid hfx
        have HBK := Lib.hid (fun W A1 c1 hW => runBlocks i p J X p hp (by omega) hxl (by omega) hfull W A1 c1 hW)
        have HLT := Lib.hid (row_lt wr g _ HR.out)
        have HBY := Lib.hid hby
        have hi63 : i ≤ 9223372036854775807 := by omega
        clear hfx hfull hby hsz hJ hp hQ hxr hxl HP HR0 HB1
        go_wp2_with (first
          | (go_at_call 15; refine HFX.out.mono ?_; (rintro r w2 ⟨v2, rfl, hm2, hb2⟩); obtain ⟨A2, c2, rfl, hy2⟩ := hm2.byt; have HY2 := Lib.hid hy2; have HB2 := Lib.hid hb2; clear hm2 hb2 hy2)
          | (go_at_call 24; refine (HBK.out _ _ _ HY2.out).mono ?_; (rintro r w3 ⟨A3, c3, rfl, hy3, hb3⟩); have HBB := Lib.hid (HB2.out.trans (hb3.mono HB2.out.size)); have HE1 := Lib.hid (refSame_yes A3 (some ⟨g, 0, none⟩) i c3 _ i _ X w3 hy3 (HBY.out.below HBB.out (Nat.le_refl _)) hi63); have HB3 := Lib.hid (HBE.out.trans (HBB.out.mono HBE.out.size)); clear hy3 hb3)
          | (go_at_call 12; with_reducible refine HE1.out.mono ?_; (rintro r w4 ⟨rfl, q4, rfl⟩)))
        go_ret
        exact ⟨rfl, below_drewN HB3.out _⟩
  · rcases Nat.eq_zero_or_pos n with h1 | h1
    · subst h1
      go_enter Try.func8, Try.ntmps8
      go_wp2_with (go_at_call 9; refine HAW.out.mono ?_; (rintro r w0 ⟨rfl, hb0⟩); have HB0 := Lib.hid hb0; clear hb0)
      go_ret
      exact ⟨rfl, HB0.out⟩
    · have hn0i : ¬ (n : Int) = 0 := by omega
      have hn0b : ((n : Int) == 0) = false := beq_eq_false_iff_ne.2 hn0i
      have hn64i : (64 : Int) < n := by omega
      have hn64b : decide ((64 : Int) < n) = true := decide_eq_true hn64i
      go_enter Try.func8, Try.ntmps8
      go_wp2_with (go_at_call 9; refine HAW.out.mono ?_; (rintro r w0 ⟨rfl, hb0⟩); have HB0 := Lib.hid hb0; clear hb0)
      go_ret
      exact ⟨rfl, HB0.out⟩
set_option maxRecDepth 100000 in
theorem runs_lifted (os : Os) (started : os.Started) (H : Type) (enc : TypeId × Value → H) :
    ReturnsInHanded {} Try.checked os 8 .any (Rows.deflateRunsSpec.pre6 enc Try.prog Try.f8 Rows.deflateRunsRow.domain false) (Rows.deflateRunsSpec.post enc Try.prog Try.f8 false true false false) := by
  refine returnsInHanded_of_change (C := Try.checked) own started (by kernel_rfl) Try.func8
    (ChangeSpec.witness6 (enc := enc) (C := Try.checked) false ⟨#[], #[.slice none 0 0, .int .u16 0], []⟩ 8 (by kernel_rfl) (by kernel_rfl) (by kernel_rfl) (by kernel_rfl)) ?_
  intro W base args ds gs before hval0 hW hcnd _
  have hval : ∀ (j : Nat) t v, Try.f8.params[j]? = some t → args[j]? = some v → Value.okWide Try.prog W .any base t v := hval0
  have hW' := hW
  obtain ⟨p, q, hA0, hV, rfl, hfz, hnd⟩ := hW
  have hA : DataW.TrodAll enc Try.prog W 0 (fun _ => true) true Try.f8.params.toList args.toList ds p := hA0
  rw [Try.params8] at hA hval
  obtain ⟨v0, vs0, d0, ds0, p0, q0, hargs, rfl, rfl, h0, r0⟩ := trodAll_cons hA
  obtain ⟨v1, vs1, d1, ds1, p1, q1, rfl, rfl, rfl, h1, r1⟩ := trodAll_cons r0
  obtain ⟨rfl, rfl, rfl⟩ := trodAll_nil r1
  obtain rfl : args = #[v0, v1] := by cases args; simp_all
  obtain ⟨rfl, rfl⟩ := trodVars_none hV
  obtain ⟨a0, len0, cap0, rfl⟩ := okWide_slice Try.underlying29 (hval 0 29 v0 rfl rfl)
  obtain ⟨zs0, hz0, hcm0⟩ := open_bytes h0 (fun _ => rfl)
  have lt0 : ∀ x ∈ p0, x.block < W.heap.size := by obtain ⟨m, hm⟩ := h0; exact DataW.trod_lt m _ _ _ hm
  obtain ⟨x1, rfl⟩ := okWide_int Try.underlying45 (hval 1 45 v1 rfl rfl)
  obtain ⟨lo1, hi1⟩ := open_intk Try.underlying45 h1
  rw [show IntKind.u16.min = 0 by decide] at lo1
  rw [show IntKind.u16.max = 65535 by decide] at hi1
  have lt1 : ∀ x ∈ p1, x.block < W.heap.size := by obtain ⟨m, hm⟩ := h1; exact DataW.trod_lt m _ _ _ hm
  have hmx : maxLen = 9223372036854775807 := by decide
  clear hA0 hval0
  refine (runs_walk a0 len0 cap0 zs0 x1 W hz0 (by have := hz0.cap; omega) lo1 hi1).mono fun e W' ⟨he, bel⟩ => ?_
  subst he
  exact ⟨_, rfl, _, _, _, [], _, [], hW', trodAll_mk1 (shut_bool Try.underlying4 _), (trodAll_cons_mk (Below.trod laidOut (by kernel_rfl) (of_decide_eq_true (by kernel_rfl)) h0 bel lt0) (trodAll_cons_mk (Below.trod laidOut (by kernel_rfl) (of_decide_eq_true (by kernel_rfl)) h1 bel lt1) trodAll_mk0)), rfl, bel.frame _, fun h => by cases h⟩

/-- DeflateRuns: it answers true. -/
theorem runs_holds : Rows.DeflateRunsSaid :=
  OpenClaim.holds_of_wide 8 Try.f8 rfl rfl rfl rfl rfl rfl rfl ⟨rfl, rfl, rfl, rfl, rfl⟩ rfl rfl rfl rfl rfl (by kernel_rfl) Try.func8 (by kernel_rfl)
    (of_decide_eq_true (by kernel_rfl)) (by unfold Func.isWrapper; first | (rw [if_pos (by decide +kernel)]; kernel_rfl) | (rw [if_neg (by decide +kernel)]; exact ⟨rfl, rfl⟩))
    (fun os started H enc _ => runs_lifted os started H enc)
#print axioms runs_holds

end Go.Proofs.Ytginbilakdenmaa
