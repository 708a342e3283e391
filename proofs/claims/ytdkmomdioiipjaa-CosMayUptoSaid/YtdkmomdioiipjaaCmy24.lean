/- Contracts of functions that the law calls, and what they lean on (a part). -/
import Derived.Shelf.RegionOpen
import Derived.Test.YtdkmomdioiipjaaCmy23
namespace Go.Proofs.Ytdkmomdioiipjaa
section
open Go.RowKit Go.BigFrame Go.Sort
set_option linter.unusedVariables false
set_option maxRecDepth 100000
attribute [local go_sem] Oper.semAt_some
/-- How deep the deepest is. -/
def deepP : List Part → Nat
  | [] => 0
  | p :: ps => max (p.a + layN p.x) (deepP ps)
theorem deepP_app : ∀ a b : List Part, deepP (a ++ b) = max (deepP a) (deepP b)
  | [], b => by simp [deepP]
  | p :: ps, b => by rw [List.cons_append, deepP, deepP_app ps b, deepP]; omega
mutual
theorem WkO.deep {w : World} {S : Nat → Prop} : ∀ (x : Ob) (a : Nat) (c3 c4 : Value) (ys : List Part), WkO w S a x c3 c4 ys → max (a + layN x) (deepP ys) = a + depthO x
  | .mk k n b l d, a, c3, c4, ys, h => by
    unfold WkO at h
    have hk : (Ob.mk k n b l d).kind = k := rfl
    unfold layN depthO
    rw [hk]
    split at h
    · rename_i h6
      obtain ⟨A, m, c, g, o, _, _, _, _, h⟩ := h
      have := WkL.deep l (a + 1) g o ys h
      rw [if_pos (.inl h6), if_pos h6]
      omega
    · rename_i h6
      split at h
      · rename_i h78
        obtain ⟨A, m, c, g, o, _, _, _, _, h⟩ := h
        have := WkE.deep d (a + 1) g o ys h
        rw [if_pos (.inr h78), if_neg h6, if_pos h78]
        omega
      · rename_i h78
        subst h
        rw [if_neg (by omega), if_neg h6, if_neg h78]
        simp [deepP]
theorem WkL.deep {w : World} {S : Nat → Prop} : ∀ (l : Obs) (a g o : Nat) (ys : List Part), WkL w S a l g o ys → max a (deepP ys) = a + depthL l
  | .nil, a, g, o, ys, h => by
    unfold WkL at h
    subst h
    simp [deepP, depthL]
  | .cons x xs, a, g, o, ys, h => by
    unfold WkL at h
    obtain ⟨c0, c1, c2, c3, c4, y1, y2, _, hx, hk, h1, h2, rfl⟩ := h
    have i1 := WkO.deep x a c3 c4 y1 h1
    have i2 := WkL.deep xs a g (o + 5) y2 h2
    rw [deepP, deepP_app, depthL]
    dsimp only
    omega
theorem WkE.deep {w : World} {S : Nat → Prop} : ∀ (d : Ens) (a g o : Nat) (ys : List Part), WkE w S a d g o ys → max a (deepP ys) = a + depthE d
  | .nil, a, g, o, ys, h => by
    unfold WkE at h
    subst h
    simp [deepP, depthE]
  | .cons s x xs, a, g, o, ys, h => by
    unfold WkE at h
    obtain ⟨c0, c1, c2, c3, c4, y1, y2, _, hx, hk, h1, h2, rfl⟩ := h
    have i1 := WkO.deep x a c3 c4 y1 h1
    have i2 := WkE.deep xs a g (o + 6) y2 h2
    rw [deepP, deepP_app, depthE]
    dsimp only
    omega
end
/-- The numbers of the references. -/
def refN : Ob → List Int
  | .mk k n _ _ _ => if k = 9 then [n] else []
def refsP (ys : List Part) : List Int := ys.flatMap (fun p => refN p.x)
mutual
def refsO : Ob → List Int
  | .mk k n b l d => if k = 6 then refsL l else if k = 7 ∨ k = 8 then refsE d else if k = 9 then [n] else []
def refsL : Obs → List Int
  | .nil => []
  | .cons x xs => refsO x ++ refsL xs
def refsE : Ens → List Int
  | .nil => []
  | .cons _ x xs => refsO x ++ refsE xs
end
mutual
theorem WkO.refs {w : World} {S : Nat → Prop} : ∀ (x : Ob) (a : Nat) (c3 c4 : Value) (ys : List Part), WkO w S a x c3 c4 ys → refN x ++ refsP ys = refsO x
  | .mk k n b l d, a, c3, c4, ys, h => by
    unfold WkO at h
    unfold refN refsO
    dsimp only
    split at h
    · rename_i h6
      obtain ⟨A, m, c, g, o, _, _, _, _, h⟩ := h
      rw [if_pos h6, if_neg (by omega)]
      exact WkL.refs l (a + 1) g o ys h
    · rename_i h6
      split at h
      · rename_i h78
        obtain ⟨A, m, c, g, o, _, _, _, _, h⟩ := h
        rw [if_neg h6, if_pos h78, if_neg (by omega)]
        exact WkE.refs d (a + 1) g o ys h
      · rename_i h78
        subst h
        rw [if_neg h6, if_neg h78]
        simp [refsP]
theorem WkL.refs {w : World} {S : Nat → Prop} : ∀ (l : Obs) (a g o : Nat) (ys : List Part), WkL w S a l g o ys → refsP ys = refsL l
  | .nil, a, g, o, ys, h => by
    unfold WkL at h
    subst h
    rfl
  | .cons x xs, a, g, o, ys, h => by
    unfold WkL at h
    obtain ⟨c0, c1, c2, c3, c4, y1, y2, _, hx, hk, h1, h2, rfl⟩ := h
    have i1 := WkO.refs x a c3 c4 y1 h1
    have i2 := WkL.refs xs a g (o + 5) y2 h2
    rw [refsL, ← i1, ← i2]
    simp [refsP]
theorem WkE.refs {w : World} {S : Nat → Prop} : ∀ (d : Ens) (a g o : Nat) (ys : List Part), WkE w S a d g o ys → refsP ys = refsE d
  | .nil, a, g, o, ys, h => by
    unfold WkE at h
    subst h
    rfl
  | .cons s x xs, a, g, o, ys, h => by
    unfold WkE at h
    obtain ⟨c0, c1, c2, c3, c4, y1, y2, _, hx, hk, h1, h2, rfl⟩ := h
    have i1 := WkO.refs x a c3 c4 y1 h1
    have i2 := WkE.refs xs a g (o + 6) y2 h2
    rw [refsE, ← i1, ← i2]
    simp [refsP]
end
set_option maxHeartbeats 16000000 in
theorem pDepthC (x : Ob) (S : Nat → Prop) (w : World) (c0 c1 c2 c3 c4 : Value) (hx : ObR w S x c0 c1 c2 c3 c4) (hS : ∀ g, S g → g < w.heap.size) (hok : okO x) (hht : htO x ≤ 100000000) :
    Calls Try.prog 16 #[.agg #[c0, c1, c2, c3, c4]] w fun r w' => r = .returned (.int .i64 (depthO x : Int)) ∧ Below w.heap.size w w' := by
  obtain ⟨k9, n9, A29, m29, c29, A39, m39, c39, A49, m49, c49, rfl, rfl, rfl, rfl, rfl⟩ := hx.form
  obtain ⟨DD, hDD⟩ : ∃ DD, depthO x = DD := ⟨_, rfl⟩
  rw [hDD]
  refine (callsIn_wide (n := 8)).1 ?_
  refine callsIn_of_wp_marks Try.func16 rfl trivial ?_ rfl
  simp only [Try.ntmps16, List.size_toArray, List.length_cons, List.length_nil, Nat.reduceAdd, Nat.reduceSub, Array.replicate_succ, Array.replicate_zero, List.push_toArray, List.append_toArray, List.nil_append, List.cons_append]
  gi_wp2_with (refine ⟨trivial, ?_⟩; gi_at_call 39; refine (callsIn_wide.2 (withinC _ _ _ _ _ _ _ _ _ _ _ _)).mono ?_; rintro e w' ⟨rfl, rfl⟩)
  have hb0 : Below w.heap.size w (((w.alloc (.cells #[.int .i64 k9, .int .i64 n9, .slice A29 m29 c29, .slice A39 m39 c39, .slice A49 m49 c49] 27)).alloc (.cells #[.int .i64 0] 3)).alloc (.cells #[.int .i64 k9, .int .i64 n9, .slice A29 m29 c29, .slice A39 m39 c39, .slice A49 m49 c49] 27)) := (((Below.refl _ w).alloc (Nat.le_refl _) _).alloc (by simp) _).alloc (by simp; omega) _
  have hs0 : (((w.alloc (.cells #[.int .i64 k9, .int .i64 n9, .slice A29 m29 c29, .slice A39 m39 c39, .slice A49 m49 c49] 27)).alloc (.cells #[.int .i64 0] 3)).alloc (.cells #[.int .i64 k9, .int .i64 n9, .slice A29 m29 c29, .slice A39 m39 c39, .slice A49 m49 c49] 27)).heap.size = w.heap.size + 3 := by simp
  have hr1 : (((w.alloc (.cells #[.int .i64 k9, .int .i64 n9, .slice A29 m29 c29, .slice A39 m39 c39, .slice A49 m49 c49] 27)).alloc (.cells #[.int .i64 0] 3)).alloc (.cells #[.int .i64 k9, .int .i64 n9, .slice A29 m29 c29, .slice A39 m39 c39, .slice A49 m49 c49] 27)).heap[w.heap.size + 1]? = some (.cells #[.int .i64 0] 3 (0, 0)) := by
    rw [heap_alloc_old (o := _) (h := by simp)]
    exact heap_alloc2_new w _ _
  have hr2 : (((w.alloc (.cells #[.int .i64 k9, .int .i64 n9, .slice A29 m29 c29, .slice A39 m39 c39, .slice A49 m49 c49] 27)).alloc (.cells #[.int .i64 0] 3)).alloc (.cells #[.int .i64 k9, .int .i64 n9, .slice A29 m29 c29, .slice A39 m39 c39, .slice A49 m49 c49] 27)).heap[w.heap.size + 1 + 1]? = some (.cells #[.int .i64 k9, .int .i64 n9, .slice A29 m29 c29, .slice A39 m39 c39, .slice A49 m49 c49] 27 (0, 0)) := by
    have := heap_alloc_new ((w.alloc (.cells #[.int .i64 k9, .int .i64 n9, .slice A29 m29 c29, .slice A39 m39 c39, .slice A49 m49 c49] 27)).alloc (.cells #[.int .i64 0] 3)) (.cells #[.int .i64 k9, .int .i64 n9, .slice A29 m29 c29, .slice A39 m39 c39, .slice A49 m49 c49] 27)
    simpa using this
  obtain ⟨W0, hW0⟩ : ∃ W0, ((w.alloc (.cells #[.int .i64 k9, .int .i64 n9, .slice A29 m29 c29, .slice A39 m39 c39, .slice A49 m49 c49] 27)).alloc (.cells #[.int .i64 0] 3)).alloc (.cells #[.int .i64 k9, .int .i64 n9, .slice A29 m29 c29, .slice A39 m39 c39, .slice A49 m49 c49] 27) = W0 := ⟨_, rfl⟩
  rw [hW0] at hb0 hs0 hr1 hr2 ⊢
  have hx0 : ObR W0 S x (.int .i64 k9) (.int .i64 n9) (.slice A29 m29 c29) (.slice A39 m39 c39) (.slice A49 m49 c49) := ObR.keep (fun g hg => hb0.block g (hS g hg)) (fun _ h => h) _ hx
  obtain ⟨ys, hys⟩ := WkO.ex x 0 _ _ _ _ _ hx0 hok (by omega)
  have hhand := within_hands (8 - 1) (by omega) w.heap.size (w.heap.size + 1 + 1) W0 S x _ _ _ _ _ ys hx0 hok hys hS hb0.size hr2
  have hdeep := WkO.deep x 0 _ _ ys hys
  have hpob : ∀ p, p ∈ ((⟨0, x, .int .i64 k9, .int .i64 n9, .slice A29 m29 c29, .slice A39 m39 c39, .slice A49 m49 c49⟩ : Part) :: ys) → ObR W0 S p.x p.c0 p.c1 p.c2 p.c3 p.c4 ∧ p.a ≤ 100000000 := fun p hp => by
    rcases List.mem_cons.1 hp with rfl | hp
    · exact ⟨hx0, by dsimp only; omega⟩
    · exact ⟨WkO.obs x 0 _ _ ys hys p hp, WkO.small x 0 _ _ ys hys p hp⟩
  have hres : DD = deepP ((⟨0, x, .int .i64 k9, .int .i64 n9, .slice A29 m29 c29, .slice A39 m39 c39, .slice A49 m49 c49⟩ : Part) :: ys) := by
    rw [← hDD, deepP]
    dsimp only
    omega
  obtain ⟨XS, hXS⟩ : ∃ XS, ((⟨0, x, .int .i64 k9, .int .i64 n9, .slice A29 m29 c29, .slice A39 m39 c39, .slice A49 m49 c49⟩ : Part) :: ys) = XS := ⟨_, rfl⟩
  rw [hXS] at hhand hpob hres
  have HRES := Lib.hid hres
  have HPO := Lib.hid hpob
  have HB0 := Lib.hid hb0
  have HS0 := Lib.hid hs0
  have HS := Lib.hid hS
  clear hDD hdeep hx hx0 hys hres hpob hW0 hr2 hXS hok hht
  have hmem : ∀ (pre : List Part) (p : Part), pre ++ [p] <+: XS → p ∈ XS := fun pre p h => h.subset (by simp)
  have HMEM := Lib.hid hmem
  clear hmem
  refine wp_hands (α := Part) rfl (by omega) (gf := 61) (lb := #[.pointer (some ⟨w.heap.size + 1 + 1, 0, none⟩)]) rfl trivial (enters_of Try.func61 (by kernel_rfl) rfl)
    hhand (fun h k => h.trans k) (fun W l o o' => KpW.put hb0.size W l o o') (fun _ => rfl)
    (fun pre W => Below w.heap.size w W ∧ W.heap[w.heap.size + 1]? = some (.cells #[.int .i64 (deepP pre : Int)] 3 (0, 0)))
    (fun _ _ => False)
    (fun s A B row hs hg hr => ⟨hs.1.grown hg hs.1.size (fun k e => by have := (hr k e).1; omega), (hg.block _ (row_lt1 hs.2) (fun e => by have := (hr _ e.symm).1; omega)).trans hs.2⟩)
    (fun _ _ _ _ hs _ _ => hs)
    ⟨hb0, hr1⟩ (fun W W' h => KpW.below h)
    (fun p a' W => ∃ Bp, W.heap[Bp]? = some (.cells #[p.c0, p.c1, p.c2, p.c3, p.c4] 27 (0, 0)) ∧ a' = { tmps := #[.agg #[.int .i64 k9, .int .i64 n9, .slice A29 m29 c29, .slice A39 m39 c39, .slice A49 m49 c49], .pointer (some ⟨w.heap.size, 0, none⟩), .int .i64 0, .pointer (some ⟨w.heap.size + 1, 0, none⟩), .int .i64 p.a, .pointer (some ⟨Bp, 0, none⟩), .agg #[.int .i64 k9, .int .i64 n9, .slice A29 m29 c29, .slice A39 m39 c39, .slice A49 m49 c49], .func (.func 61) #[] #[.pointer (some ⟨w.heap.size + 1 + 1, 0, none⟩)], .int .i64 p.a, p.val, undef, undef, undef, undef, undef, undef, undef], defers := [] })
    (by
      rintro p a' W l o o' hl ho ⟨Bp, hB, e⟩
      exact ⟨Bp, (World.putObj_heap_other (fun e2 => by subst e2; rw [hl] at hB; injection hB with hB; subst hB; cases ho)).trans hB, e⟩) ?assign ?body ?done ?stop
  case assign =>
    intro l pre p W K hpx hK
    obtain ⟨hob, hpa⟩ := HPO.out p (HMEM.out pre p hpx)
    obtain ⟨pa, px, e0, e1, e2, e3, e4⟩ := p
    obtain ⟨ka, na, F2, r2, t2, F3, r3, t3, F4, r4, t4, z0, z1, z2, z3, z4⟩ := hob.form
    dsimp only at z0 z1 z2 z3 z4
    subst z0 z1 z2 z3 z4
    have HK := Lib.hid hK
    clear hK hob hpa hhand
    dsimp only [Part.val]
    gi_wp2
    exact HK.out _ _ ((Below.refl _ _).alloc (Nat.le_refl _) _) ⟨W.heap.size, heap_alloc_new W _, rfl⟩
  case body =>
    rintro l pre p a' W ⟨hB, hr⟩ ⟨Bp, hBp, rfl⟩ hpx
    obtain ⟨hob, hpa⟩ := HPO.out p (HMEM.out pre p hpx)
    have hkd := kind_c0 hob
    have hdp : deepP (pre ++ [p]) = max (deepP pre) (p.a + layN p.x) := by rw [deepP_app]; simp [deepP]
    obtain ⟨pa, px, e0, e1, e2, e3, e4⟩ := p
    obtain ⟨ka, na, F2, r2, t2, F3, r3, t3, F4, r4, t4, z0, z1, z2, z3, z4⟩ := hob.form
    dsimp only at z0 z1 z2 z3 z4 hBp hpa hkd hdp
    subst z0 z1 z2 z3 z4
    injection hkd with _ hkd
    have hly := layN_int px
    rw [← hkd] at hly
    obtain ⟨L1, hL1⟩ : ∃ L1 : Nat, layN px = L1 := ⟨_, rfl⟩
    have hL2 : L1 ≤ 1 := by rw [← hL1]; unfold layN; split <;> omega
    obtain ⟨D0, hD0⟩ : ∃ D0, deepP pre = D0 := ⟨_, rfl⟩
    rw [hL1] at hly hdp
    rw [hD0] at hdp hr
    have HDP := Lib.hid hdp
    have HLY : Hid (∀ W', Calls Try.prog 40 #[.agg #[.int .i64 ka, .int .i64 na, .slice F2 r2 t2, .slice F3 r3 t3, .slice F4 r4 t4]] W' fun e w' => e = .returned (.int .i64 (L1 : Int)) ∧ Below W'.heap.size W' w') := Lib.hid (fun W' => by rw [← hly]; exact layerC ka _ _ _ _ W')
    have HCE : Hid (∀ W', Below W.heap.size W W' → W'.cell? ⟨Bp, 0, none⟩ = some (.int .i64 ka) ∧ W'.cell? ⟨Bp, 1, none⟩ = some (.int .i64 na) ∧ W'.cell? ⟨Bp, 2, none⟩ = some (.slice F2 r2 t2) ∧ W'.cell? ⟨Bp, 3, none⟩ = some (.slice F3 r3 t3) ∧ W'.cell? ⟨Bp, 4, none⟩ = some (.slice F4 r4 t4) ∧ W'.cell? ⟨w.heap.size + 1, 0, none⟩ = some (.int .i64 (D0 : Int)) ∧ W'.frozen? ⟨w.heap.size + 1, 0, none⟩ = false) := Lib.hid (fun W' hW' => by
      have e1 := (hW'.block Bp (row_lt1 hBp)).trans hBp
      have e2 := (hW'.block _ (row_lt1 hr)).trans hr
      exact ⟨cell_of_row _ _ 0 _ _ (0, 0) e1, cell_of_row _ _ 1 _ _ (0, 0) e1, cell_of_row _ _ 2 _ _ (0, 0) e1, cell_of_row _ _ 3 _ _ (0, 0) e1, cell_of_row _ _ 4 _ _ (0, 0) e1, cell_of_row _ _ 0 _ _ (0, 0) e2, by simp [World.frozen?, e2]⟩)
    have HEND : Hid (∀ W', Below W.heap.size W W' → KeepsOthers W (W'.setCell ⟨w.heap.size + 1, 0, none⟩ (.int .i64 ((max D0 (pa + L1) : Nat) : Int))) ∧ KpW w.heap.size W (W'.setCell ⟨w.heap.size + 1, 0, none⟩ (.int .i64 ((max D0 (pa + L1) : Nat) : Int))) ∧ Below w.heap.size w (W'.setCell ⟨w.heap.size + 1, 0, none⟩ (.int .i64 ((max D0 (pa + L1) : Nat) : Int))) ∧ (W'.setCell ⟨w.heap.size + 1, 0, none⟩ (.int .i64 ((max D0 (pa + L1) : Nat) : Int))).heap[w.heap.size + 1]? = some (.cells #[.int .i64 ((max D0 (pa + L1) : Nat) : Int)] 3 (0, 0))) := Lib.hid (fun W' hW' => by
      have hr' := (hW'.block _ (row_lt1 hr)).trans hr
      have hk : KpW w.heap.size W' (W'.setCell ⟨w.heap.size + 1, 0, none⟩ (.int .i64 ((max D0 (pa + L1) : Nat) : Int))) := by
        have hb : ∀ g, g ≠ w.heap.size + 1 → (W'.setCell ⟨w.heap.size + 1, 0, none⟩ (.int .i64 ((max D0 (pa + L1) : Nat) : Int))).heap[g]? = W'.heap[g]? := fun g hg => set_blk9 W' (w.heap.size + 1) 0 g _ hg
        refine ⟨by rw [show (W'.setCell ⟨w.heap.size + 1, 0, none⟩ (.int .i64 ((max D0 (pa + L1) : Nat) : Int))).heap.size = W'.heap.size from by simp [World.setCell]]; exact Nat.le_refl _, fun g hg hn => hb g (by omega), fun g cur fr hg => hb g (fun e => ?_), fun g cur fr hg => hb g (fun e => ?_)⟩
        · rw [e, hr'] at hg; injection hg with hg; injection hg with _ h2 _; cases h2
        · rw [e, hr'] at hg; injection hg with hg; injection hg with _ h2 _; cases h2
      exact ⟨(others_below hW').trans (KeepsOthers.setCell _ _ _), (KpW.below hW').trans hk, (hB.trans (hW'.mono hB.size)).setCell (p := ⟨w.heap.size + 1, 0, none⟩) (by simp) _, heap_set W' (w.heap.size + 1) 0 _ [.int .i64 (D0 : Int)] _ hr'⟩)
    obtain ⟨q0, q1, q2, q3, q4, q5, q6⟩ := HCE.out W (Below.refl _ _)
    have HBR : Hid (Below W.heap.size W W.drew) := Lib.hid (Below.refl _ _).drew
    have hmx : Try.prog.follows .mixedOrders = true := by kernel_rfl
    have hv : max (D0 : Int) (IntKind.i64.wrap ((pa : Int) + (L1 : Int))) = ((max D0 (pa + L1) : Nat) : Int) := by
      rw [show IntKind.i64.wrap ((pa : Int) + (L1 : Int)) = (pa : Int) + (L1 : Int) from IntWalk.i64_in _ (by omega)]
      omega
    clear hob hkd hly hL1 hBp hB hr hpx hhand hr1 hb0 hs0 hdp hD0
    dsimp only [Part.val]
    gi_wp2
    gi_region_with_o (refine ⟨trivial, ?_⟩; gi_at_call 40; refine (CallsIn.inRound l (callsIn_wide.2 (HLY.out _))).mono ?_; (rintro e w4 ⟨rfl, hb4⟩); have HB4 := Lib.hid (HBR.out.trans (hb4.mono HBR.out.size)); clear hb4 q0 q1 q2 q3 q4 q5 q6; (obtain ⟨q0, q1, q2, q3, q4, q5, q6⟩ := HCE.out _ HB4.out))
    all_goals
      (try rw [hv])
      clear q0 q1 q2 q3 q4 q5 q6
      gi_wp2
      have hf := HEND.out _ HB4.out
      exact ⟨hf.1, hf.2.1, hf.2.2.1, by rw [HDP.out]; exact hf.2.2.2⟩
  case done =>
    rintro D W hD ⟨hB, hr⟩ hK
    have hc := cell_of_row W _ 0 _ _ (0, 0) hr
    rw [← HRES.out] at hc
    gi_wp2
    refine ⟨by simp, .inl ⟨_, _, rfl, run_takeDeferred hK, ?_⟩⟩
    exact ⟨_, results_tmp rfl _ _ _, rfl, hB.trans (belowK_b (w := w) (Nat.le_refl _) W D _ _ (by omega) hK rfl rfl)⟩
  case stop =>
    rintro D pre W hD hpre h
    exact h.elim
end

section
open Go.RowKit Go.BigFrame Go.Sort
set_option linter.unusedVariables false
set_option maxRecDepth 100000
attribute [local go_sem] Oper.semAt_some
theorem infoInt14 : (Try.prog.info? 3).map (fun i => (i.zero, i.size, i.bytes)) = some (some (.int .i64 0), 1, 8) := by kernel_rfl
/-- A row of whole numbers is no place, nor what is no cells. -/
theorem ints_no {w : World} {base : Nat} {v : Value} {xs : List Value} (h : OwnV w base 3 v xs) (b : Nat) (hb : v.ownBlock = some b) : ¬ Tagged w b := by
  rintro ⟨o, ho, hc⟩
  rcases h.2 with ⟨rfl, _⟩ | ⟨g, cap, cur, rfl, h2, hh, _⟩
  · cases hb
  · injection hb with hb
    dsimp only at hb
    subst hb
    rw [hh] at ho
    injection ho with ho
    subst ho
    rcases hc with hc | ⟨cur', fr, hc⟩
    · cases hc
    · injection hc with _ h3 _
      cases h3
set_option maxHeartbeats 16000000 in
theorem pRefsC (x : Ob) (S : Nat → Prop) (w : World) (c0 c1 c2 c3 c4 : Value) (hx : ObR w S x c0 c1 c2 c3 c4) (hS : ∀ g, S g → g < w.heap.size) (hok : okO x) (hht : htO x ≤ 100000000) (hrl : (refsO x).length ≤ 1000000000) :
    Calls Try.prog 14 #[.agg #[c0, c1, c2, c3, c4]] w fun r w' => (∃ v, r = .returned v ∧ OwnV w' w.heap.size 3 v ((refsO x).map (.int .i64 ·))) ∧ Below w.heap.size w w' := by
  obtain ⟨k9, n9, A29, m29, c29, A39, m39, c39, A49, m49, c49, rfl, rfl, rfl, rfl, rfl⟩ := hx.form
  obtain ⟨RR, hRR⟩ : ∃ RR, refsO x = RR := ⟨_, rfl⟩
  rw [hRR] at hrl ⊢
  refine (callsIn_wide (n := 8)).1 ?_
  refine callsIn_of_wp_marks Try.func14 rfl trivial ?_ rfl
  simp only [Try.ntmps14, List.size_toArray, List.length_cons, List.length_nil, Nat.reduceAdd, Nat.reduceSub, Array.replicate_succ, Array.replicate_zero, List.push_toArray, List.append_toArray, List.nil_append, List.cons_append]
  gi_wp2_with (refine ⟨trivial, ?_⟩; gi_at_call 39; refine (callsIn_wide.2 (withinC _ _ _ _ _ _ _ _ _ _ _ _)).mono ?_; rintro e w' ⟨rfl, rfl⟩)
  have hb0 : Below w.heap.size w (((w.alloc (.cells #[.int .i64 k9, .int .i64 n9, .slice A29 m29 c29, .slice A39 m39 c39, .slice A49 m49 c49] 27)).alloc (.cells #[.slice none 0 0] 35)).alloc (.cells #[.int .i64 k9, .int .i64 n9, .slice A29 m29 c29, .slice A39 m39 c39, .slice A49 m49 c49] 27)) := (((Below.refl _ w).alloc (Nat.le_refl _) _).alloc (by simp) _).alloc (by simp; omega) _
  have hs0 : (((w.alloc (.cells #[.int .i64 k9, .int .i64 n9, .slice A29 m29 c29, .slice A39 m39 c39, .slice A49 m49 c49] 27)).alloc (.cells #[.slice none 0 0] 35)).alloc (.cells #[.int .i64 k9, .int .i64 n9, .slice A29 m29 c29, .slice A39 m39 c39, .slice A49 m49 c49] 27)).heap.size = w.heap.size + 3 := by simp
  have hr1 : (((w.alloc (.cells #[.int .i64 k9, .int .i64 n9, .slice A29 m29 c29, .slice A39 m39 c39, .slice A49 m49 c49] 27)).alloc (.cells #[.slice none 0 0] 35)).alloc (.cells #[.int .i64 k9, .int .i64 n9, .slice A29 m29 c29, .slice A39 m39 c39, .slice A49 m49 c49] 27)).heap[w.heap.size + 1]? = some (.cells #[.slice none 0 0] 35 (0, 0)) := by
    rw [heap_alloc_old (o := _) (h := by simp)]
    exact heap_alloc2_new w _ _
  have hr2 : (((w.alloc (.cells #[.int .i64 k9, .int .i64 n9, .slice A29 m29 c29, .slice A39 m39 c39, .slice A49 m49 c49] 27)).alloc (.cells #[.slice none 0 0] 35)).alloc (.cells #[.int .i64 k9, .int .i64 n9, .slice A29 m29 c29, .slice A39 m39 c39, .slice A49 m49 c49] 27)).heap[w.heap.size + 1 + 1]? = some (.cells #[.int .i64 k9, .int .i64 n9, .slice A29 m29 c29, .slice A39 m39 c39, .slice A49 m49 c49] 27 (0, 0)) := by
    have := heap_alloc_new ((w.alloc (.cells #[.int .i64 k9, .int .i64 n9, .slice A29 m29 c29, .slice A39 m39 c39, .slice A49 m49 c49] 27)).alloc (.cells #[.slice none 0 0] 35)) (.cells #[.int .i64 k9, .int .i64 n9, .slice A29 m29 c29, .slice A39 m39 c39, .slice A49 m49 c49] 27)
    simpa using this
  obtain ⟨W0, hW0⟩ : ∃ W0, ((w.alloc (.cells #[.int .i64 k9, .int .i64 n9, .slice A29 m29 c29, .slice A39 m39 c39, .slice A49 m49 c49] 27)).alloc (.cells #[.slice none 0 0] 35)).alloc (.cells #[.int .i64 k9, .int .i64 n9, .slice A29 m29 c29, .slice A39 m39 c39, .slice A49 m49 c49] 27) = W0 := ⟨_, rfl⟩
  rw [hW0] at hb0 hs0 hr1 hr2 ⊢
  have hx0 : ObR W0 S x (.int .i64 k9) (.int .i64 n9) (.slice A29 m29 c29) (.slice A39 m39 c39) (.slice A49 m49 c49) := ObR.keep (fun g hg => hb0.block g (hS g hg)) (fun _ h => h) _ hx
  obtain ⟨ys, hys⟩ := WkO.ex x 0 _ _ _ _ _ hx0 hok (by omega)
  have hhand := within_hands (8 - 1) (by omega) w.heap.size (w.heap.size + 1 + 1) W0 S x _ _ _ _ _ ys hx0 hok hys hS hb0.size hr2
  have hrefs := WkO.refs x 0 _ _ ys hys
  have hpob : ∀ p, p ∈ ((⟨0, x, .int .i64 k9, .int .i64 n9, .slice A29 m29 c29, .slice A39 m39 c39, .slice A49 m49 c49⟩ : Part) :: ys) → ObR W0 S p.x p.c0 p.c1 p.c2 p.c3 p.c4 ∧ p.a ≤ 100000000 := fun p hp => by
    rcases List.mem_cons.1 hp with rfl | hp
    · exact ⟨hx0, by dsimp only; omega⟩
    · exact ⟨WkO.obs x 0 _ _ ys hys p hp, WkO.small x 0 _ _ ys hys p hp⟩
  have hres : RR = refsP ((⟨0, x, .int .i64 k9, .int .i64 n9, .slice A29 m29 c29, .slice A39 m39 c39, .slice A49 m49 c49⟩ : Part) :: ys) := by
    rw [← hRR, ← hrefs]
    simp [refsP]
  obtain ⟨XS, hXS⟩ : ∃ XS, ((⟨0, x, .int .i64 k9, .int .i64 n9, .slice A29 m29 c29, .slice A39 m39 c39, .slice A49 m49 c49⟩ : Part) :: ys) = XS := ⟨_, rfl⟩
  rw [hXS] at hhand hpob hres
  have HRES := Lib.hid hres
  have HPO := Lib.hid hpob
  have HB0 := Lib.hid hb0
  have HS0 := Lib.hid hs0
  have HS := Lib.hid hS
  have HRL := Lib.hid hrl
  clear hRR hrl hrefs hx hx0 hys hres hpob hW0 hr2 hXS hok hht
  have hmem : ∀ (pre : List Part) (p : Part), pre ++ [p] <+: XS → p ∈ XS := fun pre p h => h.subset (by simp)
  have HMEM := Lib.hid hmem
  clear hmem
  refine wp_hands (α := Part) rfl (by omega) (gf := 61) (lb := #[.pointer (some ⟨w.heap.size + 1 + 1, 0, none⟩)]) rfl trivial (enters_of Try.func61 (by kernel_rfl) rfl)
    hhand (fun h k => h.trans k) (fun W l o o' => KpW.put hb0.size W l o o') (fun _ => rfl)
    (fun pre W => ∃ v, W.heap[w.heap.size + 1]? = some (.cells #[v] 35 (0, 0)) ∧ OwnV W w.heap.size 3 v ((refsP pre).map (.int .i64 ·)) ∧ Below w.heap.size w W)
    (fun _ _ => False)
    (fun s A B row ⟨v, hs1, hs2, hs3⟩ hg hr => ⟨v, (hg.block _ (row_lt1 hs1) (fun e => by have := (hr _ e.symm).1; omega)).trans hs1, hs2.same (fun b hb => hg.block b (hs2.lt b hb).1 (fun e => ints_no hs2 b hb (hr _ e.symm).2)), hs3.grown hg hs3.size (fun k e => by have := (hr k e).1; omega)⟩)
    (fun _ _ _ _ hs _ _ => hs)
    ⟨_, hr1, OwnV.nil _ _ _, hb0⟩ (fun W W' h => KpW.below h)
    (fun p a' W => ∃ Bp, W.heap[Bp]? = some (.cells #[p.c0, p.c1, p.c2, p.c3, p.c4] 27 (0, 0)) ∧ a' = { tmps := #[.agg #[.int .i64 k9, .int .i64 n9, .slice A29 m29 c29, .slice A39 m39 c39, .slice A49 m49 c49], .pointer (some ⟨w.heap.size, 0, none⟩), .slice none 0 0, .pointer (some ⟨w.heap.size + 1, 0, none⟩), undef, .pointer (some ⟨Bp, 0, none⟩), .agg #[.int .i64 k9, .int .i64 n9, .slice A29 m29 c29, .slice A39 m39 c39, .slice A49 m49 c49], .func (.func 61) #[] #[.pointer (some ⟨w.heap.size + 1 + 1, 0, none⟩)], .int .i64 p.a, p.val, undef, undef, undef, undef, undef, undef, undef, undef, undef], defers := [] })
    (by
      rintro p a' W l o o' hl ho ⟨Bp, hB, e⟩
      exact ⟨Bp, (World.putObj_heap_other (fun e2 => by subst e2; rw [hl] at hB; injection hB with hB; subst hB; cases ho)).trans hB, e⟩) ?assign ?body ?done ?stop
  case assign =>
    intro l pre p W K hpx hK
    obtain ⟨hob, hpa⟩ := HPO.out p (HMEM.out pre p hpx)
    obtain ⟨pa, px, e0, e1, e2, e3, e4⟩ := p
    obtain ⟨ka, na, F2, r2, t2, F3, r3, t3, F4, r4, t4, z0, z1, z2, z3, z4⟩ := hob.form
    dsimp only at z0 z1 z2 z3 z4
    subst z0 z1 z2 z3 z4
    have HK := Lib.hid hK
    clear hK hob hpa hhand
    dsimp only [Part.val]
    gi_wp2
    exact HK.out _ _ ((Below.refl _ _).alloc (Nat.le_refl _) _) ⟨W.heap.size, heap_alloc_new W _, rfl⟩
  case body =>
    rintro l pre p a' W ⟨v, hr, hown, hB⟩ ⟨Bp, hBp, rfl⟩ hpx
    obtain ⟨hob, hpa⟩ := HPO.out p (HMEM.out pre p hpx)
    have hkd := kind_c0 hob
    have hrp : refsP (pre ++ [p]) = refsP pre ++ refN p.x := by simp [refsP]
    have hrl2 : (refsP pre).length ≤ 1000000000 := by
      obtain ⟨t, ht⟩ := hpx
      have h1 := HRL.out
      rw [HRES.out, ← ht] at h1
      have h2 : (refsP (pre ++ [p] ++ t)).length = (refsP pre).length + (refsP ([p] ++ t)).length := by simp [refsP]
      omega
    obtain ⟨pa, px, e0, e1, e2, e3, e4⟩ := p
    obtain ⟨ka, na, F2, r2, t2, F3, r3, t3, F4, r4, t4, z0, z1, z2, z3, z4⟩ := hob.form
    dsimp only at z0 z1 z2 z3 z4 hBp hpa hkd hrp
    have hn1 : ∃ k' n' b' l' d', px = .mk k' n' b' l' d' ∧ k' = ka ∧ n' = na := by
      obtain ⟨k', n', b', l', d'⟩ := px
      dsimp only at hob
      unfold ObR at hob
      refine ⟨k', n', b', l', d', rfl, ?_, ?_⟩
      · have := hob.1.symm.trans z0; injection this
      · have := hob.2.1.symm.trans z1; injection this
    subst z0 z1 z2 z3 z4
    obtain ⟨k', n', b', l', d', hpx2, rfl, rfl⟩ := hn1
    have hn2 : refN px = if k' = 9 then [n'] else [] := by rw [hpx2]; rfl
    have e1 := hBp
    obtain ⟨q0, q1, q2, q3, q4, -⟩ := row5_cells hBp
    have q5 := cell_of_row W _ 0 _ _ (0, 0) hr
    have q6 : W.frozen? ⟨w.heap.size + 1, 0, none⟩ = false := by simp [World.frozen?, hr]
    clear hob hkd hhand hr1 hb0 hs0 e1
    by_cases hk9 : k' = 9
    · have hk9b : (k' == 9) = true := beq_iff_eq.2 hk9
      rw [if_pos hk9] at hn2
      clear hk9
      obtain ⟨i0, hi, hz0, hz1, hz2⟩ := info_parts infoInt14
      have hwa := (Below.refl W.heap.size W).alloc (Nat.le_refl _) (.cells #[.int .i64 n'] 3)
      have hnew := heap_alloc_new W (.cells #[.int .i64 n'] 3)
      obtain ⟨v', w', hrun, hown', hkx, A', c', hv'⟩ := OwnV.append1 (hown.low hwa) 35 35 i0 (.int .i64 0) 8 Try.underlying35 hi hz0 hz1 hz2 rfl (by decide) W.heap.size (.int .i64 n') (by rw [cell_of_row _ _ 0 _ _ (0, 0) hnew]; rfl) rfl (by rw [List.length_map]; exact hrl2) (by have := hB.size; have := hwa.size; omega)
      have hgrow : (W.alloc (.cells #[.int .i64 n'] 3)).grownBy w' v.ownBlock := ⟨hkx.os, hkx.tape, hkx.output, hkx.size, fun k hk hne => hkx.block k hk (fun e => hne e.symm)⟩
      obtain ⟨b1, b2, b3, b4, b5⟩ := Boxed.appended (t := 35) (tmp := .cells #[.int .i64 n'] 3) hr (by decide) hown hB.size (Nat.le_succ _) hown' hgrow
      have hkp : KpW w.heap.size W (w'.setCell ⟨w.heap.size + 1, 0, none⟩ v') := by
        have hb : ∀ (g : Nat) (cur : Array Value) (T : TypeId) (fr : Nat × Nat), W.heap[g]? = some (Obj.cells cur T fr) → T ≠ 3 → T ≠ 35 → (w'.setCell ⟨w.heap.size + 1, 0, none⟩ v').heap[g]? = W.heap[g]? := fun g cur T fr hg h1 h2 => by
          have hlt := row_lt1 hg
          have e1 : g ≠ w.heap.size + 1 := fun e => by
            rw [e, show W.heap[w.heap.size + 1]? = _ from hr] at hg
            injection hg with hg
            injection hg with _ h3 _
            exact h2 h3.symm
          have e2 : some g ≠ v.ownBlock := fun e => by
            rcases hown.2 with ⟨rfl, _⟩ | ⟨g', cap, cur', rfl, h3, hh, _⟩
            · cases e
            · injection e with e
              dsimp only at e
              subst e
              rw [hh] at hg
              injection hg with hg
              injection hg with _ h3 _
              exact h1 h3.symm
          exact (set_blk9 w' (w.heap.size + 1) 0 g _ e1).trans ((hgrow.block g (Nat.lt_of_lt_of_le hlt hwa.size) e2).trans (hwa.block g hlt))
        exact ⟨b5.size, fun g hg hn => b5.block g hn, fun g cur fr hg => hb g cur _ fr hg (by decide) (by decide), fun g cur fr hg => hb g cur _ fr hg (by decide) (by decide)⟩
      have q7 := b1.cell
      have q8 := b1.frozen
      have HF := Lib.hid (And.intro b4 (And.intro hkp (And.intro b2 (And.intro b3 (hB.trans b5)))))
      have HRP : Hid ((refsP (pre ++ [⟨pa, px, .int .i64 k', .int .i64 n', .slice F2 r2 t2, .slice F3 r3 t3, .slice F4 r4 t4⟩])).map (fun z => Value.int .i64 z) = (refsP pre).map (fun z => Value.int .i64 z) ++ [.int .i64 n']) := Lib.hid (by rw [hrp, hn2]; simp)
      have HRUN := Lib.hid hrun
      obtain ⟨A0, cc0, hvs⟩ := hown.shape
      generalize (List.map (fun x => Value.int IntKind.i64 x) (refsP pre)).length = LN at hvs hv'
      subst hvs hv'
      clear hrun hn2 hrp hown hown' hkx hgrow b1 b2 b3 b4 b5 hkp hwa hnew hi hz0 hz1 hz2 hr hB hpx hpx2 hBp
      dsimp only [Part.val]
      gi_wp2_with (gi_at_builtin; refine wpIn_append_run14 rfl (.tmp 13) (.tmp 16) 35 rfl _ _ _ rfl rfl HRUN.out ?_; clear q0 q1 q2 q3 q4 q5 q6)
      exact ⟨HF.out.1, HF.out.2.1, _, HF.out.2.2.1, by rw [HRP.out]; exact HF.out.2.2.2.1, HF.out.2.2.2.2⟩
    · have hk9b : (k' == 9) = false := beq_eq_false_iff_ne.2 hk9
      rw [if_neg hk9] at hn2
      have HI := Lib.hid (show OwnV W w.heap.size 3 v ((refsP (pre ++ [⟨pa, px, .int .i64 k', .int .i64 n', .slice F2 r2 t2, .slice F3 r3 t3, .slice F4 r4 t4⟩])).map (.int .i64 ·)) by rw [hrp, hn2, List.append_nil]; exact hown)
      have HR := Lib.hid hr
      have HB := Lib.hid hB
      clear hk9 hn2 hrp hown hr hB hpx hpx2 hBp
      dsimp only [Part.val]
      gi_wp2
      exact ⟨KeepsOthers.refl _, KpW.below (Below.refl _ _), v, HR.out, HI.out, HB.out⟩
  case done =>
    rintro D W hD ⟨v, hr, hown, hB⟩ hK
    have hc := cell_of_row W _ 0 _ _ (0, 0) hr
    rw [← HRES.out] at hown
    gi_wp2
    refine ⟨by simp, .inl ⟨_, _, rfl, run_takeDeferred hK, ?_⟩⟩
    exact ⟨_, results_tmp rfl _ _ _, ⟨v, rfl, hown.same (fun b hb => World.putObj_heap_other (fun e => ints_no hown b hb ⟨_, by rw [← e] at hK; exact hK, .inl rfl⟩))⟩, hB.trans (belowK_b (w := w) (Nat.le_refl _) W D _ _ (by omega) hK rfl rfl)⟩
  case stop =>
    rintro D pre W hD hpre h
    exact h.elim
end

section
open Go.ChangeShapes Go.WideShapes Go.ChangeAt Go.RowKit Go.Deep
set_option linter.unusedVariables false
set_option maxRecDepth 100000
mutual
/-- How much an object is: itself, its bytes, its parts. -/
def bkO : Ob → Nat
  | .mk _ _ b l d => 1 + b.length + bkL l + bkE d
def bkL : Obs → Nat
  | .nil => 0
  | .cons x xs => bkO x + bkL xs
def bkE : Ens → Nat
  | .nil => 0
  | .cons _ x xs => bkO x + bkE xs
end
mutual
theorem bkO_all : ∀ x : Ob, bkO x ≤ 100000000 → okO x ∧ htO x ≤ bkO x ∧ (refsO x).length ≤ bkO x ∧ x.sz ≤ bkO x ∧ 1 ≤ bkO x
  | .mk k n b l d, h => by
    rw [bkO] at h
    obtain ⟨a1, a2, a3, a4, a5⟩ := bkL_all l (by omega)
    obtain ⟨e1, e2, e3, e4, e5⟩ := bkE_all d (by omega)
    unfold okO
    rw [htO, refsO, Ob.sz, bkO]
    refine ⟨⟨by omega, by omega, by omega, a1, e1⟩, by omega, ?_, by omega, by omega⟩
    split
    · omega
    · split
      · omega
      · split
        · simp; omega
        · simp
theorem bkL_all : ∀ l : Obs, bkL l ≤ 100000000 → okL l ∧ htL l ≤ bkL l ∧ (refsL l).length ≤ bkL l ∧ l.sz ≤ bkL l ∧ l.len ≤ bkL l
  | .nil, h => by unfold okL; rw [htL, refsL, Obs.sz, bkL, Obs.len]; simp
  | .cons x xs, h => by
    rw [bkL] at h
    obtain ⟨a1, a2, a3, a4, a5⟩ := bkO_all x (by omega)
    obtain ⟨e1, e2, e3, e4, e5⟩ := bkL_all xs (by omega)
    unfold okL
    rw [htL, refsL, Obs.sz, bkL, Obs.len, List.length_append]
    exact ⟨⟨a1, e1⟩, by omega, by omega, by omega, by omega⟩
theorem bkE_all : ∀ l : Ens, bkE l ≤ 100000000 → okE l ∧ htE l ≤ bkE l ∧ (refsE l).length ≤ bkE l ∧ l.sz ≤ bkE l ∧ l.len ≤ bkE l
  | .nil, h => by unfold okE; rw [htE, refsE, Ens.sz, bkE, Ens.len]; simp
  | .cons s x xs, h => by
    rw [bkE] at h
    obtain ⟨a1, a2, a3, a4, a5⟩ := bkO_all x (by omega)
    obtain ⟨e1, e2, e3, e4, e5⟩ := bkE_all xs (by omega)
    unfold okE
    rw [htE, refsE, Ens.sz, bkE, Ens.len, List.length_append]
    exact ⟨⟨a1, e1⟩, by omega, by omega, by omega, by omega⟩
end
section
variable {H : Type}
theorem bulk_one (d : DataW H) : 1 ≤ Rows.uptoBulk d := by
  cases d with
  | lit l => cases l <;> simp [Rows.uptoBulk]
  | nil => simp [Rows.uptoBulk]
  | ptr d => simp [Rows.uptoBulk]
  | slice elems spare => simp [Rows.uptoBulk]
  | agg parts => simp [Rows.uptoBulk]
  | iface t d => simp [Rows.uptoBulk]
  | map entries => simp [Rows.uptoBulk]
  | held h => simp [Rows.uptoBulk]
theorem bulk_len : ∀ l : List (DataW H), l.length ≤ Rows.uptoBulkAll l
  | [] => by simp [Rows.uptoBulkAll]
  | d :: l => by
    have h1 := bulk_one d
    have h2 := bulk_len l
    simp only [Rows.uptoBulkAll, List.length_cons]; omega
theorem obs_ofB {W : World} {S : Nat → Prop} (g : Nat) : ∀ (ds : List (DataW H)) (o : Nat), (∀ i d, ds[i]? = some d → ∃ x c0 c1 c2 c3 c4, W.cell? ⟨g, o + i * 5, none⟩ = some c0 ∧ W.cell? ⟨g, o + i * 5 + 1, none⟩ = some c1 ∧ W.cell? ⟨g, o + i * 5 + 2, none⟩ = some c2 ∧ W.cell? ⟨g, o + i * 5 + 3, none⟩ = some c3 ∧ W.cell? ⟨g, o + i * 5 + 4, none⟩ = some c4 ∧ ObR W S x c0 c1 c2 c3 c4 ∧ bkO x ≤ Rows.uptoBulk d) → ∃ l : Obs, l.len = ds.length ∧ ObsR W S l g o ∧ bkL l ≤ Rows.uptoBulkAll ds
  | [], o, _ => ⟨.nil, rfl, by unfold ObsR; trivial, by rw [bkL]; exact Nat.zero_le _⟩
  | d :: ds, o, h => by
    obtain ⟨x, c0, c1, c2, c3, c4, k0, k1, k2, k3, k4, hx, hb⟩ := h 0 d rfl
    obtain ⟨l, hl, hr, hbl⟩ := obs_ofB g ds (o + 5) (fun i d' hi => by
      have := h (i + 1) d' (by simpa using hi)
      rw [show o + (i + 1) * 5 = o + 5 + i * 5 by omega] at this
      exact this)
    refine ⟨.cons x l, by rw [Obs.len, hl]; rfl, ?_, by rw [bkL, Rows.uptoBulkAll]; omega⟩
    unfold ObsR
    exact ⟨⟨c0, c1, c2, c3, c4, by simpa using k0, by simpa using k1, by simpa using k2, by simpa using k3, by simpa using k4, hx⟩, hr⟩
theorem ens_ofB {W : World} {S : Nat → Prop} (g : Nat) : ∀ (ds : List (DataW H)) (o : Nat), (∀ i d, ds[i]? = some d → ∃ s x c0 c1 c2 c3 c4, W.cell? ⟨g, o + i * 6, none⟩ = some (.string s) ∧ W.cell? ⟨g, o + i * 6 + 1, none⟩ = some c0 ∧ W.cell? ⟨g, o + i * 6 + 2, none⟩ = some c1 ∧ W.cell? ⟨g, o + i * 6 + 3, none⟩ = some c2 ∧ W.cell? ⟨g, o + i * 6 + 4, none⟩ = some c3 ∧ W.cell? ⟨g, o + i * 6 + 5, none⟩ = some c4 ∧ ObR W S x c0 c1 c2 c3 c4 ∧ bkO x ≤ Rows.uptoBulk d) → ∃ l : Ens, l.len = ds.length ∧ EnsR W S l g o ∧ bkE l ≤ Rows.uptoBulkAll ds
  | [], o, _ => ⟨.nil, rfl, by unfold EnsR; trivial, by rw [bkE]; exact Nat.zero_le _⟩
  | d :: ds, o, h => by
    obtain ⟨s, x, c0, c1, c2, c3, c4, ks, k0, k1, k2, k3, k4, hx, hb⟩ := h 0 d rfl
    obtain ⟨l, hl, hr, hbl⟩ := ens_ofB g ds (o + 6) (fun i d' hi => by
      have := h (i + 1) d' (by simpa using hi)
      rw [show o + (i + 1) * 6 = o + 6 + i * 6 by omega] at this
      exact this)
    refine ⟨.cons s x l, by rw [Ens.len, hl]; rfl, ?_, by rw [bkE, Rows.uptoBulkAll]; omega⟩
    unfold EnsR
    exact ⟨⟨c0, c1, c2, c3, c4, by simpa using ks, by simpa using k0, by simpa using k1, by simpa using k2, by simpa using k3, by simpa using k4, hx⟩, hr⟩
variable {enc : TypeId × Value → H} {W : World} {base : Nat} {sp : Nat → Bool} {held : Bool}
theorem slice_elsB {e t : TypeId} {fuel size : Nat} {c : Value} {x : DataW H × List MemPlace} (ht : Try.prog.underlying t = some (.slice e)) (hce : Try.prog.cellsOf e = size) (hs : 0 < size) (h : DataW.trod enc Try.prog W base sp held fuel t [c] = some x) :
    ∃ A len cap ds, c = .slice A len cap ∧ (len ≤ cap ∧ cap ≤ 9223372036854775807) ∧ ds.length = len ∧ Rows.uptoBulkAll ds + 1 ≤ Rows.uptoBulk x.1 ∧ (0 < len → ∃ g o m, A = some ⟨g, o, none⟩ ∧ g < W.heap.size ∧ m < fuel ∧ ∀ i d, ds[i]? = some d → ∃ cs y, y.1 = d ∧ cs.length = size ∧ DataW.trod enc Try.prog W base sp held m e cs = some y ∧ ∀ j, j < size → W.cell? ⟨g, o + i * size + j, none⟩ = cs[j]?) := by
  have hmx : maxLen = 9223372036854775807 := by decide
  rcases DataW.trod_slice ht h with ⟨h0, hx⟩ | ⟨a, len, cap, elems, rest, n, hf, hc, hx, _, hl, hm, hel, hi, _⟩
  · injection h0 with h0
    exact ⟨none, 0, 0, [], h0, by omega, rfl, by rw [Rows.uptoBulkAll]; exact bulk_one _, fun h => absurd h (Nat.lt_irrefl _)⟩
  · injection hc with hc
    have one : ∀ i d, (elems.map (·.1))[i]? = some d → ∃ cs y, y.1 = d ∧ cs.length = size ∧ DataW.trod enc Try.prog W base sp held n e cs = some y ∧ ∀ j, j < size → W.cell? ((a.add (i * size)).add j) = cs[j]? := fun i d hd => by
      rw [List.getElem?_map, Option.map_eq_some_iff] at hd
      obtain ⟨y, hy, hyd⟩ := hd
      have hi2 : i < len := by rw [← hel]; exact (List.getElem?_eq_some_iff.1 hy).1
      have h1 := hi i hi2
      rw [hy, Option.bind_eq_some_iff] at h1
      obtain ⟨cs, h2, h3⟩ := h1
      rw [hce] at h2
      obtain ⟨_, h4, h5⟩ := World.cells?_some h2
      exact ⟨cs, y, hyd, h4, h3, h5⟩
    refine ⟨some a, len, cap, elems.map (·.1), hc, ⟨hl, by omega⟩, by rw [List.length_map, hel], ?_, fun h0 => ?_⟩
    · rw [hx]
      simp only [Rows.uptoBulk]
      omega
    · obtain ⟨cs, y, _, h1, _, h3⟩ := one 0 _ (List.getElem?_eq_getElem (by rw [List.length_map, hel]; exact h0))
      have h4 := h3 0 hs
      rw [List.getElem?_eq_getElem (by omega)] at h4
      obtain ⟨g, o, spot⟩ := a
      obtain rfl : spot = none := by simpa [Addr.add] using World.cell?_spot h4
      have hgl : g < W.heap.size := by have := cell_lt h4; simpa [Addr.add] using this
      refine ⟨g, o, n, rfl, hgl, by omega, fun i d hd => ?_⟩
      obtain ⟨cs, y, h0', h1, h2, h3⟩ := one i d hd
      exact ⟨cs, y, h0', h1, h2, fun j hj => by
        have h4 := h3 j hj
        rw [add_plain, add_plain] at h4
        exact h4⟩
theorem open_obB (hsp : ∀ b, sp b = true) : ∀ (fuel : Nat) (cs : List Value) (x : DataW H × List MemPlace), DataW.trod enc Try.prog W base sp held fuel 27 cs = some x → ∃ o c0 c1 c2 c3 c4, cs = [c0, c1, c2, c3, c4] ∧ ObR W (fun g => g < W.heap.size) o c0 c1 c2 c3 c4 ∧ bkO o ≤ Rows.uptoBulk x.1 := by
  intro fuel
  induction fuel using Nat.strongRecOn with
  | ind fuel IH =>
    intro cs x hf
    have h5 : Try.prog.cellsOf 27 = 5 := by kernel_rfl
    have h6 : Try.prog.cellsOf 32 = 6 := by kernel_rfl
    have h1 : Try.prog.cellsOf 5 = 1 := by kernel_rfl
    have e1 : Try.prog.cellsOf 3 = 1 := by kernel_rfl
    have e2 : Try.prog.cellsOf 2 = 1 := by kernel_rfl
    have e3 : Try.prog.cellsOf 23 = 1 := by kernel_rfl
    have e4 : Try.prog.cellsOf 24 = 1 := by kernel_rfl
    have e5 : Try.prog.cellsOf 25 = 1 := by kernel_rfl
    have e6 : Try.prog.cellsOf 9 = 1 := by kernel_rfl
    obtain ⟨ys, n, hn, hy, hlen, hyl, hfl⟩ := DataW.trod_struct Try.underlying27 hf
    rw [h5] at hlen
    have hys : ys.length = 5 := hyl
    match cs, hlen, ys, hys with
    | [c0, c1, c2, c3, c4], _, [y0, y1, y2, y3, y4], _ =>
      have f0 : DataW.trod enc Try.prog W base sp held n 3 (List.take (Try.prog.cellsOf 3) [c0, c1, c2, c3, c4]) = some y0 := hfl 0 _ rfl
      have f1 : DataW.trod enc Try.prog W base sp held n 2 (List.take (Try.prog.cellsOf 2) [c1, c2, c3, c4]) = some y1 := hfl 1 _ rfl
      have f2 : DataW.trod enc Try.prog W base sp held n 23 (List.take (Try.prog.cellsOf 23) [c2, c3, c4]) = some y2 := hfl 2 _ rfl
      have f3 : DataW.trod enc Try.prog W base sp held n 24 (List.take (Try.prog.cellsOf 24) [c3, c4]) = some y3 := hfl 3 _ rfl
      have f4 : DataW.trod enc Try.prog W base sp held n 25 (List.take (Try.prog.cellsOf 25) [c4]) = some y4 := hfl 4 _ rfl
      rw [e1] at f0
      rw [e2] at f1
      rw [e3] at f2
      rw [e4] at f3
      rw [e5] at f4
      obtain ⟨k, g0, _, r0⟩ := DataW.trod_int Try.underlying3 f0
      obtain ⟨nn, g1, _, r1⟩ := DataW.trod_int Try.underlying2 f1
      obtain ⟨A, len, cap, zs, g2, hb, hcm⟩ := open_part f2 hsp
      obtain ⟨AB, nB, cB, dB, g2', _, hdB, hbB, _⟩ := slice_elsB Try.underlying23 h1 (by omega) f2
      obtain ⟨AL, nL, cL, dL, rfl, hcL, hdL, hbL, hL⟩ := slice_elsB Try.underlying24 h5 (by omega) f3
      obtain ⟨AD, nD, cD, dD, rfl, hcD, hdD, hbD, hD⟩ := slice_elsB Try.underlying25 h6 (by omega) f4
      simp at g0 g1 g2
      subst g0 g1 g2
      obtain ⟨-, rfl, -⟩ : A = AB ∧ len = nB ∧ cap = cB := by
        injection g2' with q1 q2 q3
        exact ⟨q1, q2, q3⟩
      have hmx : maxLen = 9223372036854775807 := by decide
      have hl : ∃ l : Obs, l.len = nL ∧ (0 < nL → ∃ g o, AL = some ⟨g, o, none⟩ ∧ g < W.heap.size ∧ ObsR W (fun g => g < W.heap.size) l g o) ∧ bkL l ≤ Rows.uptoBulkAll dL := by
        rcases Nat.eq_zero_or_pos nL with h0 | h0
        · exact ⟨.nil, by rw [h0]; rfl, fun h => absurd h (by omega), by rw [bkL]; exact Nat.zero_le _⟩
        · obtain ⟨g, o, m, e, hg, hm, hi⟩ := hL h0
          obtain ⟨l, h1, h2, h3⟩ := obs_ofB (W := W) (S := fun g => g < W.heap.size) g dL o (fun i d hid => by
            obtain ⟨cs, y, h0, h1, h2, h3⟩ := hi i d hid
            obtain ⟨x, d0, d1, d2, d3, d4, rfl, hx, hbx⟩ := IH m (by omega) cs y h2
            exact ⟨x, d0, d1, d2, d3, d4, h3 0 (by omega), h3 1 (by omega), h3 2 (by omega), h3 3 (by omega), h3 4 (by omega), hx, by rw [← h0]; exact hbx⟩)
          exact ⟨l, by rw [h1, hdL], fun _ => ⟨g, o, e, hg, h2⟩, h3⟩
      have hd : ∃ l : Ens, l.len = nD ∧ (0 < nD → ∃ g o, AD = some ⟨g, o, none⟩ ∧ g < W.heap.size ∧ EnsR W (fun g => g < W.heap.size) l g o) ∧ bkE l ≤ Rows.uptoBulkAll dD := by
        rcases Nat.eq_zero_or_pos nD with h0 | h0
        · exact ⟨.nil, by rw [h0]; rfl, fun h => absurd h (by omega), by rw [bkE]; exact Nat.zero_le _⟩
        · obtain ⟨g, o, m, e, hg, hm, hi⟩ := hD h0
          obtain ⟨l, h1, h2, h3⟩ := ens_ofB (W := W) (S := fun g => g < W.heap.size) g dD o (fun i d hid => by
            obtain ⟨cs, y, h0, h1, h2, h3⟩ := hi i d hid
            obtain ⟨zs2, n2, hn2, hz2, hlen2, hzl2, hfl2⟩ := DataW.trod_struct Try.underlying32 h2
            have hz : zs2.length = 2 := hzl2
            match cs, h1, zs2, hz with
            | [s0, d0, d1, d2, d3, d4], _, [z0, z1], _ =>
              have q0 : DataW.trod enc Try.prog W base sp held n2 9 (List.take (Try.prog.cellsOf 9) [s0, d0, d1, d2, d3, d4]) = some z0 := hfl2 0 _ rfl
              have q1 : DataW.trod enc Try.prog W base sp held n2 27 (List.take (Try.prog.cellsOf 27) [d0, d1, d2, d3, d4]) = some z1 := hfl2 1 _ rfl
              rw [e6] at q0
              rw [h5] at q1
              obtain ⟨s, gs, _⟩ := DataW.trod_string Try.underlying9 q0
              simp at gs
              subst gs
              obtain ⟨x, b0, b1, b2, b3, b4, eb, hx, hbx⟩ := IH n2 (by omega) _ _ q1
              simp at eb
              obtain ⟨rfl, rfl, rfl, rfl, rfl⟩ := eb
              exact ⟨s, x, d0, d1, d2, d3, d4, h3 0 (by omega), h3 1 (by omega), h3 2 (by omega), h3 3 (by omega), h3 4 (by omega), h3 5 (by omega), hx, by
                rw [← h0, hz2]
                simp only [List.map_cons, List.map_nil, Rows.uptoBulk, Rows.uptoBulkAll]
                omega⟩)
          exact ⟨l, by rw [h1, hdD], fun _ => ⟨g, o, e, hg, h2⟩, h3⟩
      obtain ⟨l, hl1, hl2, hl3⟩ := hl
      obtain ⟨d, hd1, hd2, hd3⟩ := hd
      refine ⟨.mk k nn zs l d, _, _, _, _, _, rfl, ?_, ?_⟩
      · unfold ObR
        refine ⟨rfl, rfl, i64_wf r0, i64_wf r1, ⟨A, len, cap, rfl, hb.len, ⟨hb.cap, by have := hb.cap; omega⟩, hb.rng, fun h0 => ?_⟩, ⟨AL, cL, by rw [hl1], by rw [hl1]; exact hcL, by rw [hl1]; exact hl2⟩, ⟨AD, cD, by rw [hd1], by rw [hd1]; exact hcD, by rw [hd1]; exact hd2⟩⟩
        obtain ⟨b, o, e, h1, h2⟩ := hb.cell h0
        exact ⟨b, o, e, h1, h2⟩
      · have hz := hb.len
        have hzb := bulk_len dB
        rw [hy, bkO]
        simp only [List.map_cons, List.map_nil, Rows.uptoBulk, Rows.uptoBulkAll]
        omega
theorem open_objB {cs : Array Value} {d : DataW H} {p : List MemPlace} (h : DataW.Trod enc Try.prog W base sp held 27 (.agg cs) d p) (hsp : ∀ b, sp b = true) :
    ∃ x c0 c1 c2 c3 c4, cs = #[c0, c1, c2, c3, c4] ∧ ObR W (fun g => g < W.heap.size) x c0 c1 c2 c3 c4 ∧ bkO x ≤ Rows.uptoBulk d := by
  obtain ⟨fuel, hf⟩ := h
  have hcl : (Value.agg cs).cells.toList = cs.toList := by simp [Value.cells]
  rw [hcl] at hf
  obtain ⟨x, c0, c1, c2, c3, c4, e, hx, hb⟩ := open_obB hsp fuel _ _ hf
  exact ⟨x, c0, c1, c2, c3, c4, by cases cs; simp_all, hx, hb⟩
end
end

section
open Go.RowKit
set_option linter.unusedVariables false
set_option maxRecDepth 100000
theorem ints_app_no (w : World) (A A2 : Option Addr) (p c c2 : Nat) (hle : p ≤ c) : (Builtin.append_ #[35, 35] 35 #[.slice A p c, .slice A2 0 c2]).run Try.prog w = .ok (.slice A p c) w := by
  obtain ⟨i0, hi, hz0, hz1, hz2⟩ := info_parts infoInt14
  cases A <;> cases A2 <;> simp [Builtin.append_, run_underlying Try.underlying35, sizeOf, typeInfo, hi, Builtin.lenOf, hle, Builtin.firstCells, storeCells, loadCells, loadCellsFrom]
theorem OwnV.le {w : World} {base base' : Nat} {e : TypeId} {v : Value} {xs : List Value} (h : OwnV w base e v xs) (hb : base' ≤ base) : OwnV w base' e v xs :=
  ⟨h.1, h.2.elim Or.inl (fun ⟨g, cap, cur, hv, hg, r⟩ => Or.inr ⟨g, cap, cur, hv, Nat.le_trans hb hg, r⟩)⟩
/-- Numbers behind numbers, one's own row in front. -/
theorem OwnV.appendInts {w : World} {base b2 p m c c2 : Nat} {A A2 : Option Addr} {xs ys : List Int} (h : OwnV w base 3 (.slice A p c) (xs.map (fun z => Value.int .i64 z))) (hy : OwnV w b2 3 (.slice A2 m c2) (ys.map (fun z => Value.int .i64 z)))
    (hl : xs.length + ys.length ≤ 1000000000) (hbase : base ≤ w.heap.size) :
    ∃ A' c' w', (Builtin.append_ #[35, 35] 35 #[.slice A p c, .slice A2 m c2]).run Try.prog w = .ok (.slice A' (xs ++ ys).length c') w' ∧ OwnV w' base 3 (.slice A' (xs ++ ys).length c') ((xs ++ ys).map (fun z => Value.int .i64 z)) ∧ Below base w w' := by
  obtain ⟨A1, c1, e1⟩ := h.shape
  obtain ⟨A3, c3, e3⟩ := hy.shape
  rw [List.length_map] at e1 e3
  injection e1 with e1a e1b e1c
  injection e3 with e3a e3b e3c
  subst e1a e1b e1c e3a e3b e3c
  by_cases hm : ys = []
  · subst hm
    have hle : xs.length ≤ c := by
      rcases h.2 with ⟨h0, h1⟩ | ⟨g, cap, cur, hv, hb, hh, hn, _⟩
      · rw [List.length_map] at h1; omega
      · injection hv with _ _ hv
        rw [List.length_map] at hn; omega
    refine ⟨A, c, w, ?_, ?_, Below.refl _ _⟩
    · rw [List.append_nil]; exact ints_app_no w A A2 _ c c2 hle
    · rw [List.append_nil]; exact h
  · have h0 : 0 < ys.length := List.length_pos_iff.2 hm
    obtain ⟨g, c', e', hg, hc⟩ := OwnV.cell hy (by rw [List.length_map]; exact h0)
    injection e' with e4 _ _
    subst e4
    obtain ⟨i0, hi, hz0, hz1, hz2⟩ := info_parts infoInt14
    obtain ⟨v', w', hr, hown, hgr, _, hat⟩ := run_append_own_at (P := Try.prog) w base 35 35 3 i0 (.int .i64 0) 1 8 Try.underlying35 hi hz0 hz1 hz2 rfl (by decide) (.slice A xs.length c) _ _ h ⟨g, 0, none⟩ ys.length c2 (ys.map (fun z => Value.int .i64 z)) (by simp)
      (by
        intro j u hj
        have hj2 := (List.getElem?_eq_some_iff.1 hj).1
        have := hc j hj2
        rw [(List.getElem?_eq_some_iff.1 hj).2] at this
        have e9 : (Addr.mk g 0 none).add j = ⟨g, j, none⟩ := by simp [Addr.add]; intro e; subst e; rfl
        exact (congrArg w.cell? e9).trans this)
      (by intro u hu; obtain ⟨z, _, rfl⟩ := List.mem_map.1 hu; rfl) (by simp only [maxLen, List.length_map]; omega) (by rw [List.length_map]; omega) hbase
    have hown2 : OwnV w' base 3 v' ((xs ++ ys).map (fun z => Value.int .i64 z)) := by
      unfold OwnV
      rw [List.map_append, List.length_append, show (ys.map (fun z => Value.int .i64 z)).length = ys.length from List.length_map _]
      exact hown
    obtain ⟨A5, c5, e5⟩ := hown2.shape
    rw [List.length_map] at e5
    subst e5
    exact ⟨A5, c5, w', hr, hown2, ⟨hgr.os, hgr.tape, hgr.output, hgr.size, fun k hk => hgr.block k (by omega) (fun e => by have := (h.lt k e.symm).2; omega)⟩⟩
theorem refsL_get : ∀ (l : Obs) (i : Nat) (x : Ob), l.get? i = some x → (refsO x).length ≤ (refsL l).length
  | .nil, i, x, h => by simp [Obs.get?] at h
  | .cons y xs, 0, x, h => by
    simp [Obs.get?] at h; subst h; rw [refsL, List.length_append]; omega
  | .cons y xs, i + 1, x, h => by
    have := refsL_get xs i x (by simpa [Obs.get?] using h)
    rw [refsL, List.length_append]; omega
theorem refsE_get : ∀ (l : Ens) (i : Nat) (s : ByteArray) (x : Ob), l.get? i = some (s, x) → (refsO x).length ≤ (refsE l).length
  | .nil, i, s, x, h => by simp [Ens.get?] at h
  | .cons t y xs, 0, s, x, h => by
    simp [Ens.get?] at h; obtain ⟨rfl, rfl⟩ := h; rw [refsE, List.length_append]; omega
  | .cons t y xs, i + 1, s, x, h => by
    have := refsE_get xs i s x (by simpa [Ens.get?] using h)
    rw [refsE, List.length_append]; omega
set_option maxHeartbeats 4000000 in
theorem rRefsC : ∀ (N : Nat) (x : Ob), x.sz ≤ N → (refsO x).length ≤ 1000000000 → ∀ (S : Nat → Prop) (w : World) (c0 c1 c2 c3 c4 : Value), ObR w S x c0 c1 c2 c3 c4 → (∀ g, S g → g < w.heap.size) →
    Calls Try.prog 28 #[.agg #[c0, c1, c2, c3, c4]] w fun r w' => (∃ v, r = .returned v ∧ OwnV w' w.heap.size 3 v ((refsO x).map (fun z => Value.int .i64 z))) ∧ Below w.heap.size w w'
  | 0, .mk k n b l d, hN => by rw [Ob.sz] at hN; omega
  | N + 1, .mk k n b l d, hN => by
    intro hNb S w c0 c1 c2 c3 c4 hx hS
    have IH := Lib.hid (rRefsC N)
    unfold ObR at hx
    obtain ⟨rfl, rfl, hk, hn, ⟨AB, mb, cb, rfl, hB⟩, ⟨AL, cL, rfl, hlc, hl⟩, ⟨AD, cD, rfl, hdc, hd⟩⟩ := hx
    rw [Ob.sz] at hN
    have hb1 := (Below.refl w.heap.size w).alloc (Nat.le_refl _) (.cells #[.int .i64 k, .int .i64 n, .slice AB mb cb, .slice AL l.len cL, .slice AD d.len cD] 27)
    have hnew := heap_alloc_new w (.cells #[.int .i64 k, .int .i64 n, .slice AB mb cb, .slice AL l.len cL, .slice AD d.len cD] 27)
    obtain ⟨W1, hW1⟩ : ∃ W1, w.alloc (.cells #[.int .i64 k, .int .i64 n, .slice AB mb cb, .slice AL l.len cL, .slice AD d.len cD] 27) = W1 := ⟨_, rfl⟩
    have hs1 : W1.heap.size = w.heap.size + 1 := by rw [← hW1]; simp
    rw [hW1] at hb1 hnew
    have m0 : W1.cell? ⟨w.heap.size, 0, none⟩ = some (.int .i64 k) := cell_of_row _ _ 0 _ _ (0, 0) hnew
    have m1 : W1.cell? ⟨w.heap.size, 1, none⟩ = some (.int .i64 n) := cell_of_row _ _ 1 _ _ (0, 0) hnew
    have HW1 := Lib.hid hb1
    have HS1 := Lib.hid hs1
    obtain ⟨LL, hLL⟩ : ∃ LL, l.len = LL := ⟨_, rfl⟩
    obtain ⟨DD, hDD⟩ : ∃ DD, d.len = DD := ⟨_, rfl⟩
    rw [hLL] at hlc
    rw [hDD] at hdc
    have HNEW2 : Hid (W1.heap[w.heap.size]? = some (.cells #[.int .i64 k, .int .i64 n, .slice AB mb cb, .slice AL LL cL, .slice AD DD cD] 27 (0, 0))) := Lib.hid (by rw [← hLL, ← hDD]; exact hnew)
    have HWE : Hid (w.alloc (.cells #[.int .i64 k, .int .i64 n, .slice AB mb cb, .slice AL LL cL, .slice AD DD cD] 27) = W1) := Lib.hid (by rw [← hLL, ← hDD]; exact hW1)
    have HL := Lib.hid hl
    have HD := Lib.hid hd
    have HS := Lib.hid hS
    have HLL := Lib.hid hLL
    have HDD := Lib.hid hDD
    have HN := Lib.hid hN
    rw [refsO] at hNb ⊢
    clear hl hd hS hB hnew hb1 hs1
    by_cases h6 : k = 6
    · subst h6
      rw [if_pos rfl]
      rw [if_pos rfl] at hNb
      obtain ⟨R, hR⟩ : ∃ R, refsL l = R := ⟨_, rfl⟩
      rw [hR] at hNb ⊢
      have HR := Lib.hid hR
      have HRL := Lib.hid hNb
      clear hR hN hLL hDD hNb
      go_enter Try.func28, Try.ntmps28
      go_wp2_with fail
      go_loopw [3, 4] (fun nv iv wr => ∃ (i c0 : Nat) (A0 : Option Addr) (rs : List Int), i ≤ LL ∧ iv = .int .i64 i ∧ nv = .slice A0 rs.length c0 ∧ Hid (rs ++ refsL (l.dropN i) = R) ∧ Hid (OwnV wr W1.heap.size 3 (.slice A0 rs.length c0) (rs.map (fun z => Value.int .i64 z))) ∧ Hid (Below W1.heap.size W1 wr)) (fun _ iv _ => LL - (intOf iv).toNat)
      case atStart => exact ⟨0, 0, none, [], Nat.zero_le _, rfl, rfl, Lib.hid (by rw [List.nil_append, ← HR.out]; cases l <;> rfl), Lib.hid (OwnV.nil _ _ _), Lib.hid (Below.refl _ _)⟩
      case round =>
        obtain ⟨i, c0, A0, rs, hi, rfl, rfl, HM, HOW, HBE⟩ := hrel
        have hbox := (HBE.out.block w.heap.size (by have := HS1.out; omega)).trans HNEW2.out
        have m3 : wr.cell? ⟨w.heap.size, 3, none⟩ = some (.slice AL LL cL) := cell_of_row _ _ 3 _ _ (0, 0) hbox
        by_cases hlt : i < LL
        · have hgt := l.get_some i (by rw [HLL.out]; exact hlt)
          obtain ⟨y, hy⟩ := hgt
          obtain ⟨g, o, rfl, hg, hobs⟩ := HL.out (by rw [HLL.out]; omega)
          have hww : Below w.heap.size w wr := HW1.out.trans (HBE.out.mono (by have := HS1.out; omega))
          have hobs2 := ObsR.keep (S' := S) (fun b hb => hww.block b (HS.out b hb)) (fun b hb => hb) l g o hg hg hobs
          obtain ⟨d0, d1, d2, d3, d4, k0, k1, k2, k3, k4, hyr⟩ := hobs2.get l g o i y hy
          have hysz := l.get_sz i y hy
          have hyrl := refsL_get l i y hy
          have hrl := HRL.out
          have HI := Lib.hid (IH.out y (by have := HN.out; omega) (by rw [HR.out] at hyrl; omega) S wr d0 d1 d2 d3 d4 hyr (fun b hb => Nat.lt_of_lt_of_le (HS.out b hb) hww.size))
          have hm := HM.out
          rw [l.drop_get i y hy, refsL, ← List.append_assoc] at hm
          have hm3 : rs.length + (refsO y).length ≤ 1000000000 := by
            have := congrArg List.length hm
            rw [List.length_append, List.length_append] at this
            omega
          obtain ⟨DY, hDY⟩ : ∃ DY, refsO y = DY := ⟨_, rfl⟩
          rw [hDY] at hm HI hm3
          have hli : (i : Int) < LL := by omega
          have HM2 := Lib.hid hm
          have HM3 := Lib.hid hm3
          have HWS := Lib.hid HBE.out.size
          clear hbox hy hobs hobs2 hyr hysz hyrl hrl hm hm3 hDY hww hg
          go_wp2_with (first
            | (at_builtin; refine Lib.wpList_append_run_sl _ rfl (.tmp 22) (.tmp 28) 35 rfl _ _ rfl rfl hrun ?_; clear hrun)
            | (go_at_call 28; refine HI.out.mono ?_; (rintro r w3 ⟨⟨v3, rfl, ho3⟩, hb3⟩); obtain ⟨A3, c3, e3⟩ := ho3.shape; rw [List.length_map] at e3; subst e3; obtain ⟨A4, c4, w4, hrun, ho4, hb4⟩ := (HOW.out.low hb3).appendInts ho3 HM3.out (Nat.le_trans HWS.out hb3.size); have HO4 := Lib.hid ho4; have HB4 := Lib.hid (HBE.out.trans ((hb3.mono HWS.out).trans hb4)); clear ho3 hb3 ho4 hb4))
          go_roundw
          case rel => exact ⟨i + 1, c4, A4, rs ++ DY, by omega, by go_num, (by first | rfl | rw [List.length_append]), HM2, HO4, HB4⟩
          case measure => simp [intOf]; omega
        · obtain rfl : LL = i := by omega
          have hm := HM.out
          have he := Obs.drop_end l
          rw [HLL.out] at he
          rw [he, refsL, List.append_nil] at hm
          subst hm
          clear he
          go_wp2_with fail
          go_ret
          exact ⟨⟨_, rfl, HOW.out.le (by have := HS1.out; omega)⟩, HW1.out.trans (HBE.out.mono (by have := HS1.out; omega))⟩
    · have t6 : (k == 6) = false := beq_eq_false_iff_ne.2 h6
      rw [if_neg h6]
      rw [if_neg h6] at hNb
      by_cases h78 : k = 7 ∨ k = 8
      · rw [if_pos h78]
        rw [if_pos h78] at hNb
        obtain ⟨R, hR⟩ : ∃ R, refsE d = R := ⟨_, rfl⟩
        rw [hR] at hNb ⊢
        have HR := Lib.hid hR
        have HRL := Lib.hid hNb
        clear hR hN hLL hDD h6 hNb
        have h78' : k = 7 ∨ (k == 7) = false ∧ k = 8 := by
          rcases h78 with h | h
          · exact .inl h
          · exact .inr ⟨beq_eq_false_iff_ne.2 (by omega), h⟩
        clear h78
        rcases h78' with rfl | ⟨t7, rfl⟩
        ·
          go_enter Try.func28, Try.ntmps28
          go_wp2_with fail
          go_loopw [3, 5] (fun nv iv wr => ∃ (i c0 : Nat) (A0 : Option Addr) (rs : List Int), i ≤ DD ∧ iv = .int .i64 i ∧ nv = .slice A0 rs.length c0 ∧ Hid (rs ++ refsE (d.dropN i) = R) ∧ Hid (OwnV wr W1.heap.size 3 (.slice A0 rs.length c0) (rs.map (fun z => Value.int .i64 z))) ∧ Hid (Below W1.heap.size W1 wr)) (fun _ iv _ => DD - (intOf iv).toNat)
          case atStart => exact ⟨0, 0, none, [], Nat.zero_le _, rfl, rfl, Lib.hid (by rw [List.nil_append, ← HR.out]; cases d <;> rfl), Lib.hid (OwnV.nil _ _ _), Lib.hid (Below.refl _ _)⟩
          case round =>
            obtain ⟨i, c0, A0, rs, hi, rfl, rfl, HM, HOW, HBE⟩ := hrel
            have hbox := (HBE.out.block w.heap.size (by have := HS1.out; omega)).trans HNEW2.out
            have m3 : wr.cell? ⟨w.heap.size, 4, none⟩ = some (.slice AD DD cD) := cell_of_row _ _ 4 _ _ (0, 0) hbox
            by_cases hlt : i < DD
            · have hgt := d.get_some i (by rw [HDD.out]; exact hlt)
              obtain ⟨sy, y, hy⟩ := hgt
              obtain ⟨g, o, rfl, hg, hobs⟩ := HD.out (by rw [HDD.out]; omega)
              have hww : Below w.heap.size w wr := HW1.out.trans (HBE.out.mono (by have := HS1.out; omega))
              have hobs2 := EnsR.keep (S' := S) (fun b hb => hww.block b (HS.out b hb)) (fun b hb => hb) d g o hg hg hobs
              obtain ⟨d0, d1, d2, d3, d4, ks, k0, k1, k2, k3, k4, hyr⟩ := hobs2.get d g o i sy y hy
              have hysz := d.get_sz i sy y hy
              have hyrl := refsE_get d i sy y hy
              have hrl := HRL.out
              have HI := Lib.hid (IH.out y (by have := HN.out; omega) (by rw [HR.out] at hyrl; omega) S wr d0 d1 d2 d3 d4 hyr (fun b hb => Nat.lt_of_lt_of_le (HS.out b hb) hww.size))
              have hm := HM.out
              rw [d.drop_get i sy y hy, refsE, ← List.append_assoc] at hm
              have hm3 : rs.length + (refsO y).length ≤ 1000000000 := by
                have := congrArg List.length hm
                rw [List.length_append, List.length_append] at this
                omega
              obtain ⟨DY, hDY⟩ : ∃ DY, refsO y = DY := ⟨_, rfl⟩
              rw [hDY] at hm HI hm3
              have hli : (i : Int) < DD := by omega
              have HM2 := Lib.hid hm
              have HM3 := Lib.hid hm3
              have HWS := Lib.hid HBE.out.size
              clear hbox hy hobs hobs2 hyr hysz hyrl hrl hm hm3 hDY hww hg
              go_wp2_with (first
                | (at_builtin; refine Lib.wpList_append_run_sl _ rfl (.tmp 40) (.tmp 47) 35 rfl _ _ rfl rfl hrun ?_; clear hrun)
                | (go_at_call 28; refine HI.out.mono ?_; (rintro r w3 ⟨⟨v3, rfl, ho3⟩, hb3⟩); obtain ⟨A3, c3, e3⟩ := ho3.shape; rw [List.length_map] at e3; subst e3; obtain ⟨A4, c4, w4, hrun, ho4, hb4⟩ := (HOW.out.low hb3).appendInts ho3 HM3.out (Nat.le_trans HWS.out hb3.size); have HO4 := Lib.hid ho4; have HB4 := Lib.hid (HBE.out.trans ((hb3.mono HWS.out).trans hb4)); clear ho3 hb3 ho4 hb4))
              go_roundw
              case rel => exact ⟨i + 1, c4, A4, rs ++ DY, by omega, by go_num, (by first | rfl | rw [List.length_append]), HM2, HO4, HB4⟩
              case measure => simp [intOf]; omega
            · obtain rfl : DD = i := by omega
              have hm := HM.out
              have he := Ens.drop_end d
              rw [HDD.out] at he
              rw [he, refsE, List.append_nil] at hm
              subst hm
              clear he
              go_wp2_with fail
              go_ret
              exact ⟨⟨_, rfl, HOW.out.le (by have := HS1.out; omega)⟩, HW1.out.trans (HBE.out.mono (by have := HS1.out; omega))⟩
        ·
          go_enter Try.func28, Try.ntmps28
          go_wp2_with fail
          go_loopw [3, 5] (fun nv iv wr => ∃ (i c0 : Nat) (A0 : Option Addr) (rs : List Int), i ≤ DD ∧ iv = .int .i64 i ∧ nv = .slice A0 rs.length c0 ∧ Hid (rs ++ refsE (d.dropN i) = R) ∧ Hid (OwnV wr W1.heap.size 3 (.slice A0 rs.length c0) (rs.map (fun z => Value.int .i64 z))) ∧ Hid (Below W1.heap.size W1 wr)) (fun _ iv _ => DD - (intOf iv).toNat)
          case atStart => exact ⟨0, 0, none, [], Nat.zero_le _, rfl, rfl, Lib.hid (by rw [List.nil_append, ← HR.out]; cases d <;> rfl), Lib.hid (OwnV.nil _ _ _), Lib.hid (Below.refl _ _)⟩
          case round =>
            obtain ⟨i, c0, A0, rs, hi, rfl, rfl, HM, HOW, HBE⟩ := hrel
            have hbox := (HBE.out.block w.heap.size (by have := HS1.out; omega)).trans HNEW2.out
            have m3 : wr.cell? ⟨w.heap.size, 4, none⟩ = some (.slice AD DD cD) := cell_of_row _ _ 4 _ _ (0, 0) hbox
            by_cases hlt : i < DD
            · have hgt := d.get_some i (by rw [HDD.out]; exact hlt)
              obtain ⟨sy, y, hy⟩ := hgt
              obtain ⟨g, o, rfl, hg, hobs⟩ := HD.out (by rw [HDD.out]; omega)
              have hww : Below w.heap.size w wr := HW1.out.trans (HBE.out.mono (by have := HS1.out; omega))
              have hobs2 := EnsR.keep (S' := S) (fun b hb => hww.block b (HS.out b hb)) (fun b hb => hb) d g o hg hg hobs
              obtain ⟨d0, d1, d2, d3, d4, ks, k0, k1, k2, k3, k4, hyr⟩ := hobs2.get d g o i sy y hy
              have hysz := d.get_sz i sy y hy
              have hyrl := refsE_get d i sy y hy
              have hrl := HRL.out
              have HI := Lib.hid (IH.out y (by have := HN.out; omega) (by rw [HR.out] at hyrl; omega) S wr d0 d1 d2 d3 d4 hyr (fun b hb => Nat.lt_of_lt_of_le (HS.out b hb) hww.size))
              have hm := HM.out
              rw [d.drop_get i sy y hy, refsE, ← List.append_assoc] at hm
              have hm3 : rs.length + (refsO y).length ≤ 1000000000 := by
                have := congrArg List.length hm
                rw [List.length_append, List.length_append] at this
                omega
              obtain ⟨DY, hDY⟩ : ∃ DY, refsO y = DY := ⟨_, rfl⟩
              rw [hDY] at hm HI hm3
              have hli : (i : Int) < DD := by omega
              have HM2 := Lib.hid hm
              have HM3 := Lib.hid hm3
              have HWS := Lib.hid HBE.out.size
              clear hbox hy hobs hobs2 hyr hysz hyrl hrl hm hm3 hDY hww hg
              go_wp2_with (first
                | (at_builtin; refine Lib.wpList_append_run_sl _ rfl (.tmp 40) (.tmp 47) 35 rfl _ _ rfl rfl hrun ?_; clear hrun)
                | (go_at_call 28; refine HI.out.mono ?_; (rintro r w3 ⟨⟨v3, rfl, ho3⟩, hb3⟩); obtain ⟨A3, c3, e3⟩ := ho3.shape; rw [List.length_map] at e3; subst e3; obtain ⟨A4, c4, w4, hrun, ho4, hb4⟩ := (HOW.out.low hb3).appendInts ho3 HM3.out (Nat.le_trans HWS.out hb3.size); have HO4 := Lib.hid ho4; have HB4 := Lib.hid (HBE.out.trans ((hb3.mono HWS.out).trans hb4)); clear ho3 hb3 ho4 hb4))
              go_roundw
              case rel => exact ⟨i + 1, c4, A4, rs ++ DY, by omega, by go_num, (by first | rfl | rw [List.length_append]), HM2, HO4, HB4⟩
              case measure => simp [intOf]; omega
            · obtain rfl : DD = i := by omega
              have hm := HM.out
              have he := Ens.drop_end d
              rw [HDD.out] at he
              rw [he, refsE, List.append_nil] at hm
              subst hm
              clear he
              go_wp2_with fail
              go_ret
              exact ⟨⟨_, rfl, HOW.out.le (by have := HS1.out; omega)⟩, HW1.out.trans (HBE.out.mono (by have := HS1.out; omega))⟩
      · rw [if_neg h78]
        have t7 : (k == 7) = false := beq_eq_false_iff_ne.2 (fun e => h78 (.inl e))
        have t8 : (k == 8) = false := beq_eq_false_iff_ne.2 (fun e => h78 (.inr e))
        clear h6 h78 hNb
        by_cases h9 : k = 9
        · subst h9
          rw [if_pos rfl]
          have hn2 := heap_alloc_new W1 (.cells #[.int .i64 n] 3)
          have hb2 := (Below.refl W1.heap.size W1).alloc (Nat.le_refl _) (.cells #[.int .i64 n] 3)
          have HF : Hid (OwnV (W1.alloc (.cells #[.int .i64 n] 3)) w.heap.size 3 (.slice (some ⟨W1.heap.size, 0, none⟩) 1 1) ([n].map (fun z => Value.int .i64 z)) ∧ Below w.heap.size w (W1.alloc (.cells #[.int .i64 n] 3))) := Lib.hid ⟨⟨rfl, .inr ⟨W1.heap.size, 1, _, rfl, by have := HS1.out; omega, hn2, Nat.le_refl _, by unfold maxLen; simp, by simp, by simp⟩⟩, HW1.out.trans (hb2.mono (by have := HS1.out; omega))⟩
          clear hn2 hb2
          go_enter Try.func28, Try.ntmps28
          go_wp2_with fail
          go_ret
          have hf := HF.out
          rw [HS1.out, ← HWE.out] at hf
          exact ⟨⟨_, rfl, hf.1⟩, hf.2⟩
        · rw [if_neg h9]
          have t9 : (k == 9) = false := beq_eq_false_iff_ne.2 h9
          clear h9
          go_enter Try.func28, Try.ntmps28
          go_wp2_with fail
          go_ret
          exact ⟨⟨_, rfl, OwnV.nil _ _ _⟩, (Below.refl _ _).alloc (Nat.le_refl _) _⟩
end

section
open Go Go.RowKit Go.Sort
set_option linter.unusedVariables false
set_option maxRecDepth 100000
/-- A row of whole numbers. -/
def IntV (w : World) (A : Option Addr) (xs : List Int) : Prop := 0 < xs.length → ∃ g o, A = some ⟨g, o, none⟩ ∧ g < w.heap.size ∧ ∀ i z, xs[i]? = some z → w.cell? ⟨g, o + i, none⟩ = some (.int .i64 z)
set_option maxHeartbeats 4000000 in
theorem intsC (xs : List Int) (A B : Option Addr) (c c' : Nat) (w : World) (hA : IntV w A xs) (hB : IntV w B xs) (hl : xs.length ≤ 1000000000) :
    Calls Try.prog 13 #[.slice A xs.length c, .slice B xs.length c'] w fun r w' => r = .returned (.bool true) ∧ Below w.heap.size w w' := by
  obtain ⟨LL, hLL⟩ : ∃ LL, xs.length = LL := ⟨_, rfl⟩
  have HLL := Lib.hid hLL
  have HA := Lib.hid hA
  have HB := Lib.hid hB
  rw [hLL] at hl ⊢
  clear hA hB hLL
  go_enter Try.func13, Try.ntmps13
  go_wp2_with fail
  go_loopw [5] (fun iv wr => ∃ (i : Nat), i ≤ LL ∧ iv = .int .i64 i ∧ Hid (Below w.heap.size w wr)) (fun iv _ => LL - (intOf iv).toNat)
  case atStart => exact ⟨0, Nat.zero_le _, rfl, Lib.hid (Below.refl _ _)⟩
  case round =>
    obtain ⟨i, hi, rfl, HBE⟩ := hrel
    by_cases hlt : i < LL
    · obtain ⟨z, hz⟩ : ∃ z, xs[i]? = some z := ⟨xs[i]'(by rw [HLL.out]; exact hlt), List.getElem?_eq_getElem _⟩
      obtain ⟨g, o, rfl, hg, hc⟩ := HA.out (by rw [HLL.out]; omega)
      obtain ⟨g2, o2, rfl, hg2, hc2⟩ := HB.out (by rw [HLL.out]; omega)
      have HK : Hid (∀ W, Below w.heap.size w W → W.cell? ⟨g, o + i, none⟩ = some (.int .i64 z) ∧ W.cell? ⟨g2, o2 + i, none⟩ = some (.int .i64 z)) := Lib.hid (fun W hW => ⟨(World.cell?_of_block (a := ⟨g, o + i, none⟩) (hW.block g hg)).trans (hc i z hz), (World.cell?_of_block (a := ⟨g2, o2 + i, none⟩) (hW.block g2 hg2)).trans (hc2 i z hz)⟩)
      have hli : (i : Int) < LL := by omega
      have HBD := Lib.hid HBE.out.drew
      have w2 : IntKind.i64.wrap (i : Int) = i := IntWalk.i64_in _ (by omega)
      have hjb : (0 ≤ (i : Int) ∧ (i : Int) < (LL : Int)) = True := eq_true ⟨by omega, by omega⟩
      clear hz hg hg2 hc hc2
      go_upto_region 6 with fail
      refine wp_region_heldR (fun W => W.cell? ⟨g, o + i, none⟩ = some (.int .i64 z) ∧ W.cell? ⟨g2, o2 + i, none⟩ = some (.int .i64 z)) 1000 (by kernel_rfl) (HK.out _ HBD.out) (fun hHeld => ?_)
      refine wpAnyR_take 0 rfl (by kernel_rfl) (by kernel_rfl) (by kernel_rfl) (by kernel_rfl) (fun _ _ _ h => h) (by rfl) (v := ?_) ?_ (by assumption) ?_
      rotate_left
      focus
        intro wS hSw
        (try dsimp only at hSw)
        go_simp
        (try simp only [hSw])
        (try simp only [w2, hjb, if_true, Int.toNat_natCast])
        (try simp only [bne_self_eq_false])
        try with_reducible rfl
      intro hHeld
      try simp only [Act.put, List.setIfInBounds_toArray, List.set_cons_zero, List.set_cons_succ]
      refine wpAnyR_take 1 rfl (by kernel_rfl) (by kernel_rfl) (by kernel_rfl) (by kernel_rfl) (fun _ _ _ h => h) (by rfl) (v := ?_) ?_ (by assumption) ?_
      rotate_left
      focus
        intro wS hSw
        (try dsimp only at hSw)
        go_simp
        (try simp only [hSw])
        (try simp only [w2, hjb, if_true, Int.toNat_natCast])
        (try simp only [bne_self_eq_false])
        try with_reducible rfl
      intro hHeld
      try simp only [Act.put, List.setIfInBounds_toArray, List.set_cons_zero, List.set_cons_succ]
      refine wpAnyR_take 2 rfl (by kernel_rfl) (by kernel_rfl) (by kernel_rfl) (by kernel_rfl) (fun _ _ _ h => h) (by rfl) (v := ?_) ?_ (by assumption) ?_
      rotate_left
      focus
        intro wS hSw
        (try dsimp only at hSw)
        go_simp
        (try simp only [hSw])
        (try simp only [w2, hjb, if_true, Int.toNat_natCast])
        (try simp only [bne_self_eq_false])
        try with_reducible rfl
      intro hHeld
      try simp only [Act.put, List.setIfInBounds_toArray, List.set_cons_zero, List.set_cons_succ]
      refine wpAnyR_take 3 rfl (by kernel_rfl) (by kernel_rfl) (by kernel_rfl) (by kernel_rfl) (fun _ _ _ h => h) (by rfl) (v := ?_) ?_ (by assumption) ?_
      rotate_left
      focus
        intro wS hSw
        (try dsimp only at hSw)
        go_simp
        (try simp only [hSw])
        (try simp only [w2, hjb, if_true, Int.toNat_natCast])
        (try simp only [bne_self_eq_false])
        try with_reducible rfl
      intro hHeld
      try simp only [Act.put, List.setIfInBounds_toArray, List.set_cons_zero, List.set_cons_succ]
      refine wpAnyR_take 4 rfl (by kernel_rfl) (by kernel_rfl) (by kernel_rfl) (by kernel_rfl) (fun _ _ _ h => h) (by rfl) (v := ?_) ?_ (by assumption) ?_
      rotate_left
      focus
        intro wS hSw
        (try dsimp only at hSw)
        go_simp
        (try simp only [hSw])
        (try simp only [w2, hjb, if_true, Int.toNat_natCast])
        (try simp only [bne_self_eq_false])
        try with_reducible rfl
      intro hHeld
      try simp only [Act.put, List.setIfInBounds_toArray, List.set_cons_zero, List.set_cons_succ]
      refine wpAnyR_take 5 rfl (by kernel_rfl) (by kernel_rfl) (by kernel_rfl) (by kernel_rfl) (fun _ _ _ h => h) (by rfl) (v := ?_) ?_ (by assumption) ?_
      rotate_left
      focus
        intro wS hSw
        (try dsimp only at hSw)
        go_simp
        (try simp only [hSw])
        (try simp only [w2, hjb, if_true, Int.toNat_natCast])
        (try simp only [bne_self_eq_false])
        try with_reducible rfl
      intro hHeld
      try simp only [Act.put, List.setIfInBounds_toArray, List.set_cons_zero, List.set_cons_succ]
      refine wpAnyR_take 6 rfl (by kernel_rfl) (by kernel_rfl) (by kernel_rfl) (by kernel_rfl) (fun _ _ _ h => h) (by rfl) (v := ?_) ?_ (by assumption) ?_
      rotate_left
      focus
        intro wS hSw
        (try dsimp only at hSw)
        go_simp
        (try simp only [hSw])
        (try simp only [w2, hjb, if_true, Int.toNat_natCast])
        (try simp only [bne_self_eq_false])
        try with_reducible rfl
      intro hHeld
      try simp only [Act.put, List.setIfInBounds_toArray, List.set_cons_zero, List.set_cons_succ]
      refine wpAnyR_take 7 rfl (by kernel_rfl) (by kernel_rfl) (by kernel_rfl) (by kernel_rfl) (fun _ _ _ h => h) (by rfl) (v := ?_) ?_ (by assumption) ?_
      rotate_left
      focus
        intro wS hSw
        (try dsimp only at hSw)
        go_simp
        (try simp only [hSw])
        (try simp only [w2, hjb, if_true, Int.toNat_natCast])
        (try simp only [bne_self_eq_false])
        try with_reducible rfl
      intro hHeld
      try simp only [Act.put, List.setIfInBounds_toArray, List.set_cons_zero, List.set_cons_succ]
      refine wpAnyR_take 8 rfl (by kernel_rfl) (by kernel_rfl) (by kernel_rfl) (by kernel_rfl) (fun _ _ _ h => h) (by rfl) (v := ?_) ?_ (by assumption) ?_
      rotate_left
      focus
        intro wS hSw
        (try dsimp only at hSw)
        go_simp
        (try simp only [hSw])
        (try simp only [w2, hjb, if_true, Int.toNat_natCast])
        (try simp only [bne_self_eq_false])
        try with_reducible rfl
      intro hHeld
      try simp only [Act.put, List.setIfInBounds_toArray, List.set_cons_zero, List.set_cons_succ]
      refine wpAnyR_done (by kernel_rfl) ?_
      refine NoPanic.normal ?_
      go_wp2_with fail
      go_roundw
      case rel => exact ⟨i + 1, by omega, by go_num, HBD⟩
      case measure => simp [intOf]; omega
    · have hli : ¬ (i : Int) < LL := by omega
      clear hlt hi
      go_wp2_with fail
      go_ret
      exact ⟨rfl, HBE.out⟩
theorem OwnV.ints {w w' : World} {base : Nat} {v : Value} {xs : List Int} (h : OwnV w base 3 v (xs.map (fun z => Value.int .i64 z))) : ∃ A c, v = .slice A xs.length c ∧ ∀ W, Below w.heap.size w W → IntV W A xs := by
  obtain ⟨A, c, e⟩ := h.shape
  rw [List.length_map] at e
  refine ⟨A, c, e, fun W hW h0 => ?_⟩
  obtain ⟨g, c', e', hg, hc⟩ := OwnV.cell h (by rw [List.length_map]; exact h0)
  rw [e] at e'
  injection e' with e1 _ _
  refine ⟨g, 0, e1, Nat.lt_of_lt_of_le hg hW.size, fun i z hz => ?_⟩
  have hi := (List.getElem?_eq_some_iff.1 hz).1
  rw [Nat.zero_add, World.cell?_of_block (a := ⟨g, i, none⟩) (hW.block g hg), hc i (by rw [List.length_map]; exact hi)]
  rw [List.getElem_map, (List.getElem?_eq_some_iff.1 hz).2]
end
end Go.Proofs.Ytdkmomdioiipjaa
