/- DeflateWrites: any bytes: as stored blocks, by the fixed codes, and wrapped: bit for bit. No condition on the input. -/
import Derived.Test.YtkbgneadhbpcaaaLaw5Do
namespace Go.Proofs.Ytkbgneadhbpcaaa
open Go.ChangeShapes Go.WideShapes Go.ChangeAt Go.RowKit Go.Deep
set_option linter.unusedVariables false
set_option maxRecDepth 100000

set_option maxHeartbeats 4000000 in
theorem writes_walk (A : Option Addr) (n c : Nat) (zs : List Int) (w : World) (hb : Byt w w.heap.size A n c zs) (hn : n ≤ 9223372036854775807) :
    Calls Try.prog 5 #[.slice A n c] w fun e w' => e = .returned (.bool true) ∧ Below w.heap.size w w' := by
  have HAW := Lib.hid (awake_any w)
  by_cases hok : n ≤ 2000
  · have HB := Lib.hid (fun W (hW : Below w.heap.size w W) => (hb.below hW (Nat.le_refl _)).more hW.size)
    have hlen := hb.len
    have hs := fun W (hW : Byt W W.heap.size A n c zs) => pStored A n c zs W hW (by omega)
    rw [chunks_one zs (by omega)] at hs
    have hni : ¬ (2000 : Int) < n := by omega
    have hfl : (fixedS zs).length ≤ 90000 := by
      have h1 := fixR_len zs hb.rng zs.length 0
      have h2 := symB_len 256 (by omega)
      unfold fixedS
      rw [pack_len]
      unfold fixBits
      simp only [List.length_append, List.length_cons, List.length_nil]
      omega
    have hsl := join1_len zs
    have hzl := zlibS_len zs
    have hbl := body_len zs
    have HS1 := Lib.hid hs
    have HS2 := Lib.hid (fun W (hW : Byt W W.heap.size A n c zs) => refStored A n c zs W hW (by omega))
    have HF1 := Lib.hid (fun W (hW : Byt W W.heap.size A n c zs) => pFixed A n c zs W hW (by omega))
    have HF2 := Lib.hid (fun W (hW : Byt W W.heap.size A n c zs) => refFixed A n c zs W hW (by omega))
    have HZ1 := Lib.hid (fun W (hW : Byt W W.heap.size A n c zs) => pZlib A n c zs W hW (by omega))
    have HZ2 := Lib.hid (fun W (hW : Byt W W.heap.size A n c zs) => refZlib A n c zs W hW (by omega))
    obtain ⟨X, hX⟩ : ∃ X, joinZ [zs] = X := ⟨_, rfl⟩
    obtain ⟨Y, hY⟩ : ∃ Y, fixedS zs = Y := ⟨_, rfl⟩
    obtain ⟨Z, hZ⟩ : ∃ Z, zlibS zs = Z := ⟨_, rfl⟩
    rw [hX] at HS1 HS2 hsl
    rw [hY] at HF1 HF2 hfl
    rw [hZ] at HZ1 HZ2 hzl
    have hx : X.length ≤ 90000 := by omega
    have hz : Z.length ≤ 90000 := by omega
    clear hs hb hX hY hZ hsl hzl hbl hlen hok
    go_enter Try.func5, Try.ntmps5
    go_wp2_with (first
      | (go_at_call 9; refine HAW.out.mono ?_; (rintro r w0 ⟨rfl, hb0⟩); have HB0 := Lib.hid hb0; clear hb0)
      | (go_at_call 14; refine (HS1.out _ (HB.out _ HB0.out)).mono ?_; (rintro r w1 ⟨v1, rfl, hm1, hb1⟩); have HM1 := Lib.hid hm1; have HB1 := Lib.hid (HB0.out.trans (hb1.mono HB0.out.size)); clear hm1 hb1)
      | (go_at_call 20; refine (HS2.out _ (HB.out _ HB1.out)).mono ?_; (rintro r w2 ⟨v2, rfl, hm2, hb2⟩); obtain ⟨A1, c1, rfl, hy1⟩ := (HM1.out.kept hb2).byt; obtain ⟨A2, c2, rfl, hy2⟩ := hm2.byt; have HE := Lib.hid (refSame_yes A1 A2 _ c1 _ c2 _ _ _ hy1 hy2 (by omega)); have HB2 := Lib.hid (HB1.out.trans (hb2.mono HB1.out.size)); clear hm2 hb2 hy1 hy2)
      | (go_at_call 12; with_reducible refine HE.out.mono ?_; (rintro r w3 ⟨rfl, q3, rfl⟩); have HB3 := Lib.hid (below_drewN HB2.out q3))
      | (go_at_call 15; refine (HF1.out _ (HB.out _ HB3.out)).mono ?_; (rintro r w4 ⟨v4, rfl, hm4, hb4⟩); have HM4 := Lib.hid hm4; have HB4 := Lib.hid (HB3.out.trans (hb4.mono HB3.out.size)); clear hm4 hb4)
      | (go_at_call 21; refine (HF2.out _ (HB.out _ HB4.out)).mono ?_; (rintro r w5 ⟨v5, rfl, hm5, hb5⟩); obtain ⟨A4, c4, rfl, hy4⟩ := (HM4.out.kept hb5).byt; obtain ⟨A5, c5, rfl, hy5⟩ := hm5.byt; have HG := Lib.hid (refSame_yes A4 A5 _ c4 _ c5 _ _ _ hy4 hy5 (by omega)); have HB5 := Lib.hid (HB4.out.trans (hb5.mono HB4.out.size)); clear hm5 hb5 hy4 hy5)
      | (go_at_call 12; with_reducible refine HG.out.mono ?_; (rintro r w6 ⟨rfl, q6, rfl⟩); have HB6 := Lib.hid (below_drewN HB5.out q6))
      | (go_at_call 16; refine (HZ1.out _ (HB.out _ HB6.out)).mono ?_; (rintro r w7 ⟨v7, rfl, hm7, hb7⟩); have HM7 := Lib.hid hm7; have HB7 := Lib.hid (HB6.out.trans (hb7.mono HB6.out.size)); clear hm7 hb7)
      | (go_at_call 22; refine (HZ2.out _ (HB.out _ HB7.out)).mono ?_; (rintro r w8 ⟨v8, rfl, hm8, hb8⟩); obtain ⟨A7, c7, rfl, hy7⟩ := (HM7.out.kept hb8).byt; obtain ⟨A8, c8, rfl, hy8⟩ := hm8.byt; have HI := Lib.hid (refSame_yes A7 A8 _ c7 _ c8 _ _ _ hy7 hy8 (by omega)); have HB8 := Lib.hid (HB7.out.trans (hb8.mono HB7.out.size)); clear hm8 hb8 hy7 hy8)
      | (go_at_call 12; with_reducible refine HI.out.mono ?_; (rintro r w9 ⟨rfl, q9, rfl⟩); have HB9 := Lib.hid (below_drewN HB8.out q9)))
    go_ret
    exact ⟨rfl, HB9.out⟩
  · have hni : (2000 : Int) < n := by omega
    go_enter Try.func5, Try.ntmps5
    go_wp2_with (go_at_call 9; refine HAW.out.mono ?_; (rintro r w0 ⟨rfl, hb0⟩); have HB0 := Lib.hid hb0; clear hb0)
    go_ret
    exact ⟨rfl, HB0.out⟩
set_option maxRecDepth 100000 in
theorem writes_lifted (os : Os) (started : os.Started) (H : Type) (enc : TypeId × Value → H) :
    ReturnsInHanded {} Try.checked os 5 .any (Rows.deflateWritesSpec.pre6 enc Try.prog Try.f5 Rows.deflateWritesRow.domain false) (Rows.deflateWritesSpec.post enc Try.prog Try.f5 false true false false) := by
  refine returnsInHanded_of_change (C := Try.checked) own started (by kernel_rfl) Try.func5
    (ChangeSpec.witness6 (enc := enc) (C := Try.checked) false ⟨#[], #[.slice none 0 0], []⟩ 8 (by kernel_rfl) (by kernel_rfl) (by kernel_rfl) (by kernel_rfl)) ?_
  intro W base args ds gs before hval0 hW hcnd _
  have hval : ∀ (j : Nat) t v, Try.f5.params[j]? = some t → args[j]? = some v → Value.okWide Try.prog W .any base t v := hval0
  have hW' := hW
  obtain ⟨p, q, hA0, hV, rfl, hfz, hnd⟩ := hW
  have hA : DataW.TrodAll enc Try.prog W 0 (fun _ => true) true Try.f5.params.toList args.toList ds p := hA0
  rw [Try.params5] at hA hval
  obtain ⟨v0, vs0, d0, ds0, p0, q0, hargs, rfl, rfl, h0, r0⟩ := trodAll_cons hA
  obtain ⟨rfl, rfl, rfl⟩ := trodAll_nil r0
  obtain rfl : args = #[v0] := by cases args; simp_all
  obtain ⟨rfl, rfl⟩ := trodVars_none hV
  obtain ⟨a0, len0, cap0, rfl⟩ := okWide_slice Try.underlying29 (hval 0 29 v0 rfl rfl)
  obtain ⟨zs0, hz0, hcm0⟩ := open_bytes h0 (fun _ => rfl)
  have lt0 : ∀ x ∈ p0, x.block < W.heap.size := by obtain ⟨m, hm⟩ := h0; exact DataW.trod_lt m _ _ _ hm
  have hmx : maxLen = 9223372036854775807 := by decide
  clear hA0 hval0
  refine (writes_walk a0 len0 cap0 zs0 W hz0 (by have := hz0.cap; omega)).mono fun e W' ⟨he, bel⟩ => ?_
  subst he
  exact ⟨_, rfl, _, _, _, [], _, [], hW', trodAll_mk1 (shut_bool Try.underlying4 _), (trodAll_cons_mk (Below.trod laidOut (by kernel_rfl) (of_decide_eq_true (by kernel_rfl)) h0 bel lt0) trodAll_mk0), rfl, bel.frame _, fun h => by cases h⟩

/-- DeflateWrites: it answers true. -/
theorem writes_holds : Rows.DeflateWritesSaid :=
  OpenClaim.holds_of_wide 5 Try.f5 rfl rfl rfl rfl rfl rfl rfl ⟨rfl, rfl, rfl, rfl, rfl⟩ rfl rfl rfl rfl rfl (by kernel_rfl) Try.func5 (by kernel_rfl)
    (of_decide_eq_true (by kernel_rfl)) (by unfold Func.isWrapper; first | (rw [if_pos (by decide +kernel)]; kernel_rfl) | (rw [if_neg (by decide +kernel)]; exact ⟨rfl, rfl⟩))
    (fun os started H enc _ => writes_lifted os started H enc)
#print axioms writes_holds

end Go.Proofs.Ytkbgneadhbpcaaa
