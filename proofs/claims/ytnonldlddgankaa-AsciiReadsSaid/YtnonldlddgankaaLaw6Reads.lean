/- AsciiReads: any signs: the bytes they stand for, or what is wrong first, within any bound. No condition on the input. -/
import Derived.Test.YtnonldlddgankaaLaw6Do
namespace Go.Proofs.Ytnonldlddgankaa
open Go.ChangeShapes Go.WideShapes Go.ChangeAt Go.RowKit Go.Deep
set_option linter.unusedVariables false
set_option maxRecDepth 100000

theorem unhx_len (M : Nat) : ∀ (l : List Int) (h : Int) (o : List Int), (unhxR M l h o).1.length ≤ o.length + l.length
  | [], _, _ => by simp [unhxR]
  | c :: cs, h, o => by
    rw [unhxR, List.length_cons]
    split
    · have := unhx_len M cs h o; omega
    · split
      · split
        · dsimp only; omega
        · split
          · simp
          · simp
      · split
        · simp
        · split
          · have := unhx_len M cs (dgZ c) o; omega
          · split
            · simp
            · have := unhx_len M cs (-1) (o ++ [h * 16 + dgZ c])
              rw [List.length_append] at this
              simp only [List.length_cons, List.length_nil] at this
              omega
theorem grp_len3 (M : Nat) (g o : List Int) : (grpR M g o).1.length ≤ o.length + 4 := by
  unfold grpR
  split
  · simp
  · split
    · simp
    · rw [List.length_append, List.length_take]
      have : (by4 (v85 g)).length = 4 := rfl
      omega
theorem u85_len (M : Nat) : ∀ (l g o : List Int), (u85R M l g o).1.length ≤ o.length + 4 * l.length
  | [], _, _ => by simp [u85R]
  | c :: cs, g, o => by
    rw [u85R, List.length_cons]
    split
    · have := u85_len M cs g o; omega
    · split
      · split
        · split
          · unfold lstR
            split
            · dsimp only; omega
            · split
              · simp
              · have := grp_len3 M g o; dsimp only; omega
          · simp
        · simp
      · split
        · split
          · simp
          · have := u85_len M cs [] (o ++ [0, 0, 0, 0])
            rw [List.length_append] at this
            simp only [List.length_cons, List.length_nil] at this
            omega
        · split
          · simp
          · split
            · split
              · have h1 := u85_len M cs [] (grpR M (g ++ [c - 33]) o).1
                have h2 := grp_len3 M (g ++ [c - 33]) o
                omega
              · simp
            · have := u85_len M cs (g ++ [c - 33]) o; omega

set_option maxHeartbeats 4000000 in
theorem reads_walk (A : Option Addr) (n c : Nat) (zs : List Int) (most : Int) (w : World) (hb : Byt w w.heap.size A n c zs) (hn : n ≤ 9223372036854775807) (m0 : -9223372036854775808 ≤ most) (m1 : most ≤ 9223372036854775807) :
    Calls Try.prog 4 #[.slice A n c, .int .i64 most] w fun e w' => e = .returned (.bool true) ∧ Below w.heap.size w w' := by
  have HAW := Lib.hid (awake_any w)
  by_cases hok : n ≤ 1000
  · have HB := Lib.hid (fun W (hW : Below w.heap.size w W) => (hb.below hW (Nat.le_refl _)).more hW.size)
    have hlen := hb.len
    have hni : ¬ (1000 : Int) < n := by omega
    have hl1 := unhx_len (max most 0).toNat zs (-1) []
    have hl2 := u85_len (max most 0).toNat zs [] []
    obtain ⟨R1, hR1⟩ : ∃ R, unhxR (max most 0).toNat zs (-1) [] = R := ⟨_, rfl⟩
    obtain ⟨R2, hR2⟩ : ∃ R, u85R (max most 0).toNat zs [] [] = R := ⟨_, rfl⟩
    have H1 := Lib.hid (fun W (hW : Byt W W.heap.size A n c zs) => pUnhex A n c most zs W hW (by omega) m0 m1 R1 hR1)
    have H2 := Lib.hid (fun W (hW : Byt W W.heap.size A n c zs) => refUnhex A n c most zs W hW (by omega) m0 m1 R1 hR1)
    have H3 := Lib.hid (fun W (hW : Byt W W.heap.size A n c zs) => pUnbase85 A n c most zs W hW (by omega) m0 m1 R2 hR2)
    have H4 := Lib.hid (fun W (hW : Byt W W.heap.size A n c zs) => refUnbase85 A n c most zs W hW (by omega) m0 m1 R2 hR2)
    rw [hR1] at hl1
    rw [hR2] at hl2
    obtain ⟨o1, e1⟩ := R1
    obtain ⟨o2, e2⟩ := R2
    dsimp only at hl1 hl2
    rw [hlen] at hl1 hl2
    have ho1 : o1.length ≤ 4000 := by simp at hl1; omega
    have ho2 : o2.length ≤ 4000 := by simp at hl2; omega
    clear hb hR1 hR2 hl1 hl2 hlen hok
    go_enter Try.func4, Try.ntmps4
    go_wp2_with (first
      | (go_at_call 8; refine HAW.out.mono ?_; (rintro r w0 ⟨rfl, hb0⟩); have HB0 := Lib.hid hb0; clear hb0)
      | (go_at_call 9; refine (H1.out _ (HB.out _ HB0.out)).mono ?_; (rintro r w1 ⟨A1, c1, rfl, hy1, hb1⟩); dsimp only at hy1; have HY1 := Lib.hid hy1; have HB1 := Lib.hid (HB0.out.trans (hb1.mono HB0.out.size)); clear hy1 hb1)
      | (go_at_call 16; refine (H2.out _ (HB.out _ HB1.out)).mono ?_; (rintro r w2 ⟨A2, c2, rfl, hy2, hb2⟩); dsimp only at hy2; have HY1b := Lib.hid ((HY1.out.below hb2 (Nat.le_refl _)).more hb2.size); have HY2 := Lib.hid hy2; have HB2 := Lib.hid (HB1.out.trans (hb2.mono HB1.out.size)); clear hy2 hb2)
      | (go_at_call 10; refine (H3.out _ (HB.out _ HB2.out)).mono ?_; (rintro r w3 ⟨A3, c3, rfl, hy3, hb3⟩); dsimp only at hy3; have HY1c := Lib.hid ((HY1b.out.below hb3 (Nat.le_refl _)).more hb3.size); have HY2b := Lib.hid ((HY2.out.below hb3 (Nat.le_refl _)).more hb3.size); have HY3 := Lib.hid hy3; have HB3 := Lib.hid (HB2.out.trans (hb3.mono HB2.out.size)); clear hy3 hb3)
      | (go_at_call 17; refine (H4.out _ (HB.out _ HB3.out)).mono ?_; (rintro r w4 ⟨A4, c4, rfl, hy4, hb4⟩); dsimp only at hy4; have HE1 := Lib.hid (refSame_yes A1 A2 o1.length c1 _ c2 _ o1 w4 ((HY1c.out.below hb4 (Nat.le_refl _)).more hb4.size) ((HY2b.out.below hb4 (Nat.le_refl _)).more hb4.size) (by omega)); have HY3b := Lib.hid ((HY3.out.below hb4 (Nat.le_refl _)).more hb4.size); have HY4 := Lib.hid hy4; have HB4 := Lib.hid (HB3.out.trans (hb4.mono HB3.out.size)); clear hy4 hb4)
      | (go_at_call 11; with_reducible refine HE1.out.mono ?_; (rintro r w5 ⟨rfl, q5, rfl⟩); have HE2 := Lib.hid (refSame_yes A3 A4 o2.length c3 _ c4 _ o2 _ (HY3b.out.drewN q5) (HY4.out.drewN q5) (by omega)))
      | (go_at_call 11; with_reducible refine HE2.out.mono ?_; (rintro r w6 ⟨rfl, q6, rfl⟩)))
    go_ret
    exact ⟨rfl, below_drewN HB4.out _⟩
  · have hni : (1000 : Int) < n := by omega
    go_enter Try.func4, Try.ntmps4
    go_wp2_with (go_at_call 8; refine HAW.out.mono ?_; (rintro r w0 ⟨rfl, hb0⟩); have HB0 := Lib.hid hb0; clear hb0)
    go_ret
    exact ⟨rfl, HB0.out⟩
set_option maxRecDepth 100000 in
theorem reads_lifted (os : Os) (started : os.Started) (H : Type) (enc : TypeId × Value → H) :
    ReturnsInHanded {} Try.checked os 4 .any (Rows.asciiReadsSpec.pre6 enc Try.prog Try.f4 Rows.asciiReadsRow.domain false) (Rows.asciiReadsSpec.post enc Try.prog Try.f4 false true false false) := by
  refine returnsInHanded_of_change (C := Try.checked) own started (by kernel_rfl) Try.func4
    (ChangeSpec.witness6 (enc := enc) (C := Try.checked) false ⟨#[], #[.slice none 0 0, .int .i64 0], []⟩ 8 (by kernel_rfl) (by kernel_rfl) (by kernel_rfl) (by kernel_rfl)) ?_
  intro W base args ds gs before hval0 hW hcnd _
  have hval : ∀ (j : Nat) t v, Try.f4.params[j]? = some t → args[j]? = some v → Value.okWide Try.prog W .any base t v := hval0
  have hW' := hW
  obtain ⟨p, q, hA0, hV, rfl, hfz, hnd⟩ := hW
  have hA : DataW.TrodAll enc Try.prog W 0 (fun _ => true) true Try.f4.params.toList args.toList ds p := hA0
  rw [Try.params4] at hA hval
  obtain ⟨v0, vs0, d0, ds0, p0, q0, hargs, rfl, rfl, h0, r0⟩ := trodAll_cons hA
  obtain ⟨v1, vs1, d1, ds1, p1, q1, rfl, rfl, rfl, h1, r1⟩ := trodAll_cons r0
  obtain ⟨rfl, rfl, rfl⟩ := trodAll_nil r1
  obtain rfl : args = #[v0, v1] := by cases args; simp_all
  obtain ⟨rfl, rfl⟩ := trodVars_none hV
  obtain ⟨a0, len0, cap0, rfl⟩ := okWide_slice Try.underlying23 (hval 0 23 v0 rfl rfl)
  obtain ⟨zs0, hz0, hcm0⟩ := open_bytes h0 (fun _ => rfl)
  have lt0 : ∀ x ∈ p0, x.block < W.heap.size := by obtain ⟨m, hm⟩ := h0; exact DataW.trod_lt m _ _ _ hm
  obtain ⟨x1, rfl⟩ := okWide_int Try.underlying3 (hval 1 3 v1 rfl rfl)
  obtain ⟨lo1, hi1⟩ := open_intk Try.underlying3 h1
  rw [show IntKind.i64.min = -9223372036854775808 by decide] at lo1
  rw [show IntKind.i64.max = 9223372036854775807 by decide] at hi1
  have lt1 : ∀ x ∈ p1, x.block < W.heap.size := by obtain ⟨m, hm⟩ := h1; exact DataW.trod_lt m _ _ _ hm
  have hmx : maxLen = 9223372036854775807 := by decide
  clear hA0 hval0
  refine (reads_walk a0 len0 cap0 zs0 x1 W hz0 (by have := hz0.cap; omega) lo1 hi1).mono fun e W' ⟨he, bel⟩ => ?_
  subst he
  exact ⟨_, rfl, _, _, _, [], _, [], hW', trodAll_mk1 (shut_bool Try.underlying4 _), (trodAll_cons_mk (Below.trod laidOut (by kernel_rfl) (of_decide_eq_true (by kernel_rfl)) h0 bel lt0) (trodAll_cons_mk (Below.trod laidOut (by kernel_rfl) (of_decide_eq_true (by kernel_rfl)) h1 bel lt1) trodAll_mk0)), rfl, bel.frame _, fun h => by cases h⟩

/-- AsciiReads: it answers true. -/
theorem reads_holds : Rows.AsciiReadsSaid :=
  OpenClaim.holds_of_wide 4 Try.f4 rfl rfl rfl rfl rfl rfl rfl ⟨rfl, rfl, rfl, rfl, rfl⟩ rfl rfl rfl rfl rfl (by kernel_rfl) Try.func4 (by kernel_rfl)
    (of_decide_eq_true (by kernel_rfl)) (by unfold Func.isWrapper; first | (rw [if_pos (by decide +kernel)]; kernel_rfl) | (rw [if_neg (by decide +kernel)]; exact ⟨rfl, rfl⟩))
    (fun os started H enc _ => reads_lifted os started H enc)
#print axioms reads_holds

end Go.Proofs.Ytnonldlddgankaa
