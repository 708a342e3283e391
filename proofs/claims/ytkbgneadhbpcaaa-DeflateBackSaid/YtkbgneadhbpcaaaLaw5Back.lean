/- DeflateBack: what it writes is read by the document's own reader as it was; wrapped it is never longer than stored. No condition on the input. -/
import Derived.Test.YtkbgneadhbpcaaaLaw5Do
import Derived.Test.YtkbgneadhbpcaaaDec5Z
namespace Go.Proofs.Ytkbgneadhbpcaaa
open Go.ChangeShapes Go.WideShapes Go.ChangeAt Go.RowKit Go.Deep
set_option linter.unusedVariables false
set_option maxRecDepth 100000

theorem fixed_size (zs : List Int) (hz : ∀ z ∈ zs, 0 ≤ z ∧ z < 256) : (fixedS zs).length ≤ 2 * zs.length + 4 := by
  have h1 := fixR_len zs hz zs.length 0
  have h2 := symB_len 256 (by omega)
  unfold fixedS
  rw [pack_len]
  unfold fixBits
  simp only [List.length_append, List.length_cons, List.length_nil]
  omega
theorem refBlocks_at (n M k : Nat) (Z zs : List Int) (p : Nat) (hp : Z.length = p) (hp2 : p ≤ 1000000) (hl : zs.length = n) (hn : n ≤ 1000000) (K : Int) (hK : K = k) (h : blocksS Z n = (zs, k, 0)) (W : World) (A1 : Option Addr) (c1 : Nat) (hW : Byt W W.heap.size A1 p c1 Z) :
    Calls Try.prog 24 #[.slice A1 p c1, .int .i64 (n : Int)] W fun r w' => ∃ A' c', r = .returned (.tuple #[.slice A' n c', .int .i64 K, .int .i64 0]) ∧ Byt w' w'.heap.size A' n c' zs ∧ Below W.heap.size W w' := by
  have := refBlocks A1 p c1 n n Z W hW (by omega) (by omega) (by omega) (by omega)
  rw [h] at this
  subst hK
  exact this.mono fun r w' ⟨A', c', h1, h2, _, h4⟩ => ⟨A', c', by rw [h1, ← hl], by rw [← hl]; exact h2, h4⟩
theorem refUnz_at (n k : Nat) (Z zs : List Int) (p : Nat) (hp : Z.length = p) (hp2 : p ≤ 1000000) (hl : zs.length = n) (hn : n ≤ 1000000) (h : unzS Z n = (zs, k, 0)) (W : World) (A1 : Option Addr) (c1 : Nat) (hW : Byt W W.heap.size A1 p c1 Z) :
    Calls Try.prog 23 #[.slice A1 p c1, .int .i64 (n : Int)] W fun r w' => ∃ A' c', r = .returned (.tuple #[.slice A' n c', .int .i64 (k : Int), .int .i64 0]) ∧ Byt w' w'.heap.size A' n c' zs ∧ Below W.heap.size W w' := by
  have := refUnz A1 p c1 n n Z W hW (by omega) (by omega) (by omega) (by omega)
  rw [h] at this
  exact this.mono fun r w' ⟨A', c', h1, h2, _, h4⟩ => ⟨A', c', by rw [h1, ← hl], by rw [← hl]; exact h2, h4⟩
set_option maxHeartbeats 4000000 in
theorem back_walk (A : Option Addr) (n c : Nat) (zs : List Int) (w : World) (hb : Byt w w.heap.size A n c zs) (hn : n ≤ 9223372036854775807) :
    Calls Try.prog 6 #[.slice A n c] w fun e w' => e = .returned (.bool true) ∧ Below w.heap.size w w' := by
  have HAW := Lib.hid (awake_any w)
  by_cases hok : n ≤ 2000
  · have HB := Lib.hid (fun W (hW : Below w.heap.size w W) => (hb.below hW (Nat.le_refl _)).more hW.size)
    have hlen := hb.len
    have hrz := hb.rng
    have hs := fun W (hW : Byt W W.heap.size A n c zs) => pStored A n c zs W hW (by omega)
    rw [chunks_one zs (by omega)] at hs
    have hni : ¬ (2000 : Int) < n := by omega
    have hfl := fixed_size zs hrz
    have hsl := join1_len zs
    have hzl := zlibS_len zs
    have hbl := body_len zs
    have h65 : zs.length < 65536 := by omega
    have u1 := unz_full zs [] n hrz (fun z h => by cases h) h65 (by omega)
    have u2 := fix_full zs [] n hrz (by omega)
    have u3 := stor_full zs [] n (bys_of _ fun z h => by rw [List.append_nil] at h; exact join_rng zs hrz h65 z h) h65 (by omega)
    rw [List.append_nil] at u1 u2 u3
    have HS1 := Lib.hid hs
    have HF1 := Lib.hid (fun W (hW : Byt W W.heap.size A n c zs) => pFixed A n c zs W hW (by omega))
    have HZ1 := Lib.hid (fun W (hW : Byt W W.heap.size A n c zs) => pZlib A n c zs W hW (by omega))
    obtain ⟨X, hX⟩ : ∃ X, joinZ [zs] = X := ⟨_, rfl⟩
    obtain ⟨Y, hY⟩ : ∃ Y, fixedS zs = Y := ⟨_, rfl⟩
    obtain ⟨Z, hZ⟩ : ∃ Z, zlibS zs = Z := ⟨_, rfl⟩
    rw [hX] at HS1 hsl u3
    rw [hY] at HF1 hfl u2
    rw [hZ] at HZ1 hzl u1
    obtain ⟨x, hx⟩ : ∃ x, X.length = x := ⟨_, rfl⟩
    obtain ⟨y, hy⟩ : ∃ y, Y.length = y := ⟨_, rfl⟩
    obtain ⟨z, hz⟩ : ∃ z, Z.length = z := ⟨_, rfl⟩
    rw [hx] at HS1 u3 hsl
    rw [hy] at HF1 u2 hfl
    rw [hz] at HZ1 u1 hzl
    have HU := Lib.hid (refUnz_at n z Z zs z hz (by omega) hlen (by omega) u1)
    have HG := Lib.hid (refBlocks_at n n y Y zs y hy (by omega) hlen (by omega) y rfl u2)
    have HH := Lib.hid (refBlocks_at n n x X zs x hx (by omega) hlen (by omega) ((n : Int) + 5) (by omega) u3)
    have hz11 : (z : Int) ≤ (n : Int) + 11 := by omega
    have hn2 : (n : Int) ≤ 2000 := by omega
    have hy2 : (y : Int) ≤ 5000 := by omega
    have HNN := Lib.hid hn
    clear hs hb hX hY hZ hsl hzl hbl hlen hok hfl hrz h65 u1 u2 u3 hx hy hz hn
    go_enter Try.func6, Try.ntmps6
    go_wp2_with (first
      | (go_at_call 9; refine HAW.out.mono ?_; (rintro r w0 ⟨rfl, hb0⟩); have HB0 := Lib.hid hb0; clear hb0)
      | (go_at_call 16; refine (HZ1.out _ (HB.out _ HB0.out)).mono ?_; (rintro r w1 ⟨v1, rfl, hm1, hb1⟩); obtain ⟨A1, c1, rfl, hy1⟩ := hm1.byt; have HY1 := Lib.hid hy1; have HB1 := Lib.hid (HB0.out.trans (hb1.mono HB0.out.size)); clear hm1 hb1 hy1)
      | (go_at_call 23; refine (HU.out _ _ _ HY1.out).mono ?_; (rintro r w2 ⟨A2, c2, rfl, hy2, hb2⟩); have HY2 := Lib.hid hy2; have HC2 := Lib.hid (Below.refl w2.heap.size w2); have HB2 := Lib.hid (HB1.out.trans (hb2.mono HB1.out.size)); clear hy2 hb2)
      | (go_at_call 15; with_reducible refine (HF1.out _ (HB.out _ HB2.out)).mono ?_; (rintro r w3 ⟨v3, rfl, hm3, hb3⟩); obtain ⟨A3, c3, rfl, hy3⟩ := hm3.byt; have HY3 := Lib.hid hy3; have HC3 := Lib.hid hb3; have HB3 := Lib.hid (HB2.out.trans (hb3.mono HB2.out.size)); clear hm3 hb3 hy3)
      | (go_at_call 24; with_reducible refine (HG.out _ _ _ HY3.out).mono ?_; (rintro r w4 ⟨A4, c4, rfl, hy4, hb4⟩); have HY4 := Lib.hid hy4; have HC4 := Lib.hid (HC3.out.trans (hb4.mono HC3.out.size)); have HD4 := Lib.hid (Below.refl w4.heap.size w4); have HB4 := Lib.hid (HB3.out.trans (hb4.mono HB3.out.size)); clear hy4 hb4)
      | (go_at_call 14; with_reducible refine (HS1.out _ (HB.out _ HB4.out)).mono ?_; (rintro r w5 ⟨v5, rfl, hm5, hb5⟩); obtain ⟨A5, c5, rfl, hy5⟩ := hm5.byt; have HY5 := Lib.hid hy5; have HD5 := Lib.hid hb5; have HB5 := Lib.hid (HB4.out.trans (hb5.mono HB4.out.size)); clear hm5 hb5 hy5)
      | (go_at_call 24; with_reducible refine (HH.out _ _ _ HY5.out).mono ?_; (rintro r w6 ⟨A6, c6, rfl, hy6, hb6⟩); have HY6 := Lib.hid hy6; have HD6 := Lib.hid (HD5.out.trans (hb6.mono HD5.out.size)); have HB6 := Lib.hid (HB5.out.trans (hb6.mono HB5.out.size)); have HC6 := Lib.hid (HC4.out.trans (HD6.out.mono HC4.out.size)); clear hy6 hb6)
      | (go_at_call 12; with_reducible refine (refSame_yes A2 A n c2 _ c _ zs _ (HY2.out.below HC6.out (Nat.le_refl _)) (HB.out _ HB6.out) HNN.out).mono ?_; (rintro r w7 ⟨rfl, q7, rfl⟩); have HB7 := Lib.hid (below_drewN HB6.out q7); have HD7 := Lib.hid (below_drewN HD6.out q7); have HE7 := Lib.hid (below_drewN (Below.refl w6.heap.size w6) q7); (try dsimp only))
      | (go_at_call 15; with_reducible refine (HF1.out _ (HB.out _ HB7.out)).mono ?_; (rintro r w8 ⟨v8, rfl, hm8, hb8⟩); obtain ⟨A8, c8, rfl, _⟩ := hm8.byt; have HB8 := Lib.hid (HB7.out.trans (hb8.mono HB7.out.size)); have HD8 := Lib.hid (HD7.out.trans (hb8.mono HD7.out.size)); have HE8 := Lib.hid (HE7.out.trans (hb8.mono HE7.out.size)); clear hm8 hb8)
      | (go_at_call 12; with_reducible refine (refSame_yes A4 A n c4 _ c _ zs _ (HY4.out.below HD8.out (Nat.le_refl _)) (HB.out _ HB8.out) HNN.out).mono ?_; (rintro r w9 ⟨rfl, q9, rfl⟩); have HB9 := Lib.hid (below_drewN HB8.out q9); have HE9 := Lib.hid (below_drewN HE8.out q9); (try dsimp only))
      | (go_at_call 12; with_reducible refine (refSame_yes A6 A n c6 _ c _ zs _ (HY6.out.below HE9.out (Nat.le_refl _)) (HB.out _ HB9.out) HNN.out).mono ?_; (rintro r w10 ⟨rfl, q10, rfl⟩); (try dsimp only)))
    go_ret
    exact ⟨rfl, below_drewN HB8.out _⟩
  · have hni : (2000 : Int) < n := by omega
    go_enter Try.func6, Try.ntmps6
    go_wp2_with (go_at_call 9; refine HAW.out.mono ?_; (rintro r w0 ⟨rfl, hb0⟩); have HB0 := Lib.hid hb0; clear hb0)
    go_ret
    exact ⟨rfl, HB0.out⟩
set_option maxRecDepth 100000 in
theorem back_lifted (os : Os) (started : os.Started) (H : Type) (enc : TypeId × Value → H) :
    ReturnsInHanded {} Try.checked os 6 .any (Rows.deflateBackSpec.pre6 enc Try.prog Try.f6 Rows.deflateBackRow.domain false) (Rows.deflateBackSpec.post enc Try.prog Try.f6 false true false false) := by
  refine returnsInHanded_of_change (C := Try.checked) own started (by kernel_rfl) Try.func6
    (ChangeSpec.witness6 (enc := enc) (C := Try.checked) false ⟨#[], #[.slice none 0 0], []⟩ 8 (by kernel_rfl) (by kernel_rfl) (by kernel_rfl) (by kernel_rfl)) ?_
  intro W base args ds gs before hval0 hW hcnd _
  have hval : ∀ (j : Nat) t v, Try.f6.params[j]? = some t → args[j]? = some v → Value.okWide Try.prog W .any base t v := hval0
  have hW' := hW
  obtain ⟨p, q, hA0, hV, rfl, hfz, hnd⟩ := hW
  have hA : DataW.TrodAll enc Try.prog W 0 (fun _ => true) true Try.f6.params.toList args.toList ds p := hA0
  rw [Try.params6] at hA hval
  obtain ⟨v0, vs0, d0, ds0, p0, q0, hargs, rfl, rfl, h0, r0⟩ := trodAll_cons hA
  obtain ⟨rfl, rfl, rfl⟩ := trodAll_nil r0
  obtain rfl : args = #[v0] := by cases args; simp_all
  obtain ⟨rfl, rfl⟩ := trodVars_none hV
  obtain ⟨a0, len0, cap0, rfl⟩ := okWide_slice Try.underlying29 (hval 0 29 v0 rfl rfl)
  obtain ⟨zs0, hz0, hcm0⟩ := open_bytes h0 (fun _ => rfl)
  have lt0 : ∀ x ∈ p0, x.block < W.heap.size := by obtain ⟨m, hm⟩ := h0; exact DataW.trod_lt m _ _ _ hm
  have hmx : maxLen = 9223372036854775807 := by decide
  clear hA0 hval0
  refine (back_walk a0 len0 cap0 zs0 W hz0 (by have := hz0.cap; omega)).mono fun e W' ⟨he, bel⟩ => ?_
  subst he
  exact ⟨_, rfl, _, _, _, [], _, [], hW', trodAll_mk1 (shut_bool Try.underlying4 _), (trodAll_cons_mk (Below.trod laidOut (by kernel_rfl) (of_decide_eq_true (by kernel_rfl)) h0 bel lt0) trodAll_mk0), rfl, bel.frame _, fun h => by cases h⟩

/-- DeflateBack: it answers true. -/
theorem back_holds : Rows.DeflateBackSaid :=
  OpenClaim.holds_of_wide 6 Try.f6 rfl rfl rfl rfl rfl rfl rfl ⟨rfl, rfl, rfl, rfl, rfl⟩ rfl rfl rfl rfl rfl (by kernel_rfl) Try.func6 (by kernel_rfl)
    (of_decide_eq_true (by kernel_rfl)) (by unfold Func.isWrapper; first | (rw [if_pos (by decide +kernel)]; kernel_rfl) | (rw [if_neg (by decide +kernel)]; exact ⟨rfl, rfl⟩))
    (fun os started H enc _ => back_lifted os started H enc)
#print axioms back_holds

end Go.Proofs.Ytkbgneadhbpcaaa
