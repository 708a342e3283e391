/- Contracts of functions that the law calls, and what they lean on (a part). -/
import Derived.Shelf.RegionOpen
import Derived.Test.YtdkmomdioiipjaaCkn23
namespace Go.Proofs.Ytdkmomdioiipjaa
section
open Go.RowKit Go.BigFrame Go.Sort
set_option linter.unusedVariables false
set_option maxRecDepth 100000
attribute [local go_sem] Oper.semAt_some
/-- How deep the deepest is. -/
def deepP : List Part → Nat
  | [] => 0
  | p :: ps => max (p.a + layN p.x) (deepP ps)
theorem deepP_app : ∀ a b : List Part, deepP (a ++ b) = max (deepP a) (deepP b)
  | [], b => by simp [deepP]
  | p :: ps, b => by rw [List.cons_append, deepP, deepP_app ps b, deepP]; omega
mutual
theorem WkO.deep {w : World} {S : Nat → Prop} : ∀ (x : Ob) (a : Nat) (c3 c4 : Value) (ys : List Part), WkO w S a x c3 c4 ys → max (a + layN x) (deepP ys) = a + depthO x
  | .mk k n b l d, a, c3, c4, ys, h => by
    unfold WkO at h
    have hk : (Ob.mk k n b l d).kind = k := rfl
    unfold layN depthO
    rw [hk]
    split at h
    · rename_i h6
      obtain ⟨A, m, c, g, o, _, _, _, _, h⟩ := h
      have := WkL.deep l (a + 1) g o ys h
      rw [if_pos (.inl h6), if_pos h6]
      omega
    · rename_i h6
      split at h
      · rename_i h78
        obtain ⟨A, m, c, g, o, _, _, _, _, h⟩ := h
        have := WkE.deep d (a + 1) g o ys h
        rw [if_pos (.inr h78), if_neg h6, if_pos h78]
        omega
      · rename_i h78
        subst h
        rw [if_neg (by omega), if_neg h6, if_neg h78]
        simp [deepP]
theorem WkL.deep {w : World} {S : Nat → Prop} : ∀ (l : Obs) (a g o : Nat) (ys : List Part), WkL w S a l g o ys → max a (deepP ys) = a + depthL l
  | .nil, a, g, o, ys, h => by
    unfold WkL at h
    subst h
    simp [deepP, depthL]
  | .cons x xs, a, g, o, ys, h => by
    unfold WkL at h
    obtain ⟨c0, c1, c2, c3, c4, y1, y2, _, hx, hk, h1, h2, rfl⟩ := h
    have i1 := WkO.deep x a c3 c4 y1 h1
    have i2 := WkL.deep xs a g (o + 5) y2 h2
    rw [deepP, deepP_app, depthL]
    dsimp only
    omega
theorem WkE.deep {w : World} {S : Nat → Prop} : ∀ (d : Ens) (a g o : Nat) (ys : List Part), WkE w S a d g o ys → max a (deepP ys) = a + depthE d
  | .nil, a, g, o, ys, h => by
    unfold WkE at h
    subst h
    simp [deepP, depthE]
  | .cons s x xs, a, g, o, ys, h => by
    unfold WkE at h
    obtain ⟨c0, c1, c2, c3, c4, y1, y2, _, hx, hk, h1, h2, rfl⟩ := h
    have i1 := WkO.deep x a c3 c4 y1 h1
    have i2 := WkE.deep xs a g (o + 6) y2 h2
    rw [deepP, deepP_app, depthE]
    dsimp only
    omega
end
/-- The numbers of the references. -/
def refN : Ob → List Int
  | .mk k n _ _ _ => if k = 9 then [n] else []
def refsP (ys : List Part) : List Int := ys.flatMap (fun p => refN p.x)
mutual
def refsO : Ob → List Int
  | .mk k n b l d => if k = 6 then refsL l else if k = 7 ∨ k = 8 then refsE d else if k = 9 then [n] else []
def refsL : Obs → List Int
  | .nil => []
  | .cons x xs => refsO x ++ refsL xs
def refsE : Ens → List Int
  | .nil => []
  | .cons _ x xs => refsO x ++ refsE xs
end
mutual
theorem WkO.refs {w : World} {S : Nat → Prop} : ∀ (x : Ob) (a : Nat) (c3 c4 : Value) (ys : List Part), WkO w S a x c3 c4 ys → refN x ++ refsP ys = refsO x
  | .mk k n b l d, a, c3, c4, ys, h => by
    unfold WkO at h
    unfold refN refsO
    dsimp only
    split at h
    · rename_i h6
      obtain ⟨A, m, c, g, o, _, _, _, _, h⟩ := h
      rw [if_pos h6, if_neg (by omega)]
      exact WkL.refs l (a + 1) g o ys h
    · rename_i h6
      split at h
      · rename_i h78
        obtain ⟨A, m, c, g, o, _, _, _, _, h⟩ := h
        rw [if_neg h6, if_pos h78, if_neg (by omega)]
        exact WkE.refs d (a + 1) g o ys h
      · rename_i h78
        subst h
        rw [if_neg h6, if_neg h78]
        simp [refsP]
theorem WkL.refs {w : World} {S : Nat → Prop} : ∀ (l : Obs) (a g o : Nat) (ys : List Part), WkL w S a l g o ys → refsP ys = refsL l
  | .nil, a, g, o, ys, h => by
    unfold WkL at h
    subst h
    rfl
  | .cons x xs, a, g, o, ys, h => by
    unfold WkL at h
    obtain ⟨c0, c1, c2, c3, c4, y1, y2, _, hx, hk, h1, h2, rfl⟩ := h
    have i1 := WkO.refs x a c3 c4 y1 h1
    have i2 := WkL.refs xs a g (o + 5) y2 h2
    rw [refsL, ← i1, ← i2]
    simp [refsP]
theorem WkE.refs {w : World} {S : Nat → Prop} : ∀ (d : Ens) (a g o : Nat) (ys : List Part), WkE w S a d g o ys → refsP ys = refsE d
  | .nil, a, g, o, ys, h => by
    unfold WkE at h
    subst h
    rfl
  | .cons s x xs, a, g, o, ys, h => by
    unfold WkE at h
    obtain ⟨c0, c1, c2, c3, c4, y1, y2, _, hx, hk, h1, h2, rfl⟩ := h
    have i1 := WkO.refs x a c3 c4 y1 h1
    have i2 := WkE.refs xs a g (o + 6) y2 h2
    rw [refsE, ← i1, ← i2]
    simp [refsP]
end
set_option maxHeartbeats 16000000 in
theorem pDepthC (x : Ob) (S : Nat → Prop) (w : World) (c0 c1 c2 c3 c4 : Value) (hx : ObR w S x c0 c1 c2 c3 c4) (hS : ∀ g, S g → g < w.heap.size) (hok : okO x) (hht : htO x ≤ 100000000) :
    Calls Try.prog 16 #[.agg #[c0, c1, c2, c3, c4]] w fun r w' => r = .returned (.int .i64 (depthO x : Int)) ∧ Below w.heap.size w w' := by
  obtain ⟨k9, n9, A29, m29, c29, A39, m39, c39, A49, m49, c49, rfl, rfl, rfl, rfl, rfl⟩ := hx.form
  obtain ⟨DD, hDD⟩ : ∃ DD, depthO x = DD := ⟨_, rfl⟩
  rw [hDD]
  refine (callsIn_wide (n := 8)).1 ?_
  refine callsIn_of_wp_marks Try.func16 rfl trivial ?_ rfl
  simp only [Try.ntmps16, List.size_toArray, List.length_cons, List.length_nil, Nat.reduceAdd, Nat.reduceSub, Array.replicate_succ, Array.replicate_zero, List.push_toArray, List.append_toArray, List.nil_append, List.cons_append]
  gi_wp2_with (refine ⟨trivial, ?_⟩; gi_at_call 39; refine (callsIn_wide.2 (withinC _ _ _ _ _ _ _ _ _ _ _ _)).mono ?_; rintro e w' ⟨rfl, rfl⟩)
  have hb0 : Below w.heap.size w (((w.alloc (.cells #[.int .i64 k9, .int .i64 n9, .slice A29 m29 c29, .slice A39 m39 c39, .slice A49 m49 c49] 27)).alloc (.cells #[.int .i64 0] 3)).alloc (.cells #[.int .i64 k9, .int .i64 n9, .slice A29 m29 c29, .slice A39 m39 c39, .slice A49 m49 c49] 27)) := (((Below.refl _ w).alloc (Nat.le_refl _) _).alloc (by simp) _).alloc (by simp; omega) _
  have hs0 : (((w.alloc (.cells #[.int .i64 k9, .int .i64 n9, .slice A29 m29 c29, .slice A39 m39 c39, .slice A49 m49 c49] 27)).alloc (.cells #[.int .i64 0] 3)).alloc (.cells #[.int .i64 k9, .int .i64 n9, .slice A29 m29 c29, .slice A39 m39 c39, .slice A49 m49 c49] 27)).heap.size = w.heap.size + 3 := by simp
  have hr1 : (((w.alloc (.cells #[.int .i64 k9, .int .i64 n9, .slice A29 m29 c29, .slice A39 m39 c39, .slice A49 m49 c49] 27)).alloc (.cells #[.int .i64 0] 3)).alloc (.cells #[.int .i64 k9, .int .i64 n9, .slice A29 m29 c29, .slice A39 m39 c39, .slice A49 m49 c49] 27)).heap[w.heap.size + 1]? = some (.cells #[.int .i64 0] 3 (0, 0)) := by
    rw [heap_alloc_old (o := _) (h := by simp)]
    exact heap_alloc2_new w _ _
  have hr2 : (((w.alloc (.cells #[.int .i64 k9, .int .i64 n9, .slice A29 m29 c29, .slice A39 m39 c39, .slice A49 m49 c49] 27)).alloc (.cells #[.int .i64 0] 3)).alloc (.cells #[.int .i64 k9, .int .i64 n9, .slice A29 m29 c29, .slice A39 m39 c39, .slice A49 m49 c49] 27)).heap[w.heap.size + 1 + 1]? = some (.cells #[.int .i64 k9, .int .i64 n9, .slice A29 m29 c29, .slice A39 m39 c39, .slice A49 m49 c49] 27 (0, 0)) := by
    have := heap_alloc_new ((w.alloc (.cells #[.int .i64 k9, .int .i64 n9, .slice A29 m29 c29, .slice A39 m39 c39, .slice A49 m49 c49] 27)).alloc (.cells #[.int .i64 0] 3)) (.cells #[.int .i64 k9, .int .i64 n9, .slice A29 m29 c29, .slice A39 m39 c39, .slice A49 m49 c49] 27)
    simpa using this
  obtain ⟨W0, hW0⟩ : ∃ W0, ((w.alloc (.cells #[.int .i64 k9, .int .i64 n9, .slice A29 m29 c29, .slice A39 m39 c39, .slice A49 m49 c49] 27)).alloc (.cells #[.int .i64 0] 3)).alloc (.cells #[.int .i64 k9, .int .i64 n9, .slice A29 m29 c29, .slice A39 m39 c39, .slice A49 m49 c49] 27) = W0 := ⟨_, rfl⟩
  rw [hW0] at hb0 hs0 hr1 hr2 ⊢
  have hx0 : ObR W0 S x (.int .i64 k9) (.int .i64 n9) (.slice A29 m29 c29) (.slice A39 m39 c39) (.slice A49 m49 c49) := ObR.keep (fun g hg => hb0.block g (hS g hg)) (fun _ h => h) _ hx
  obtain ⟨ys, hys⟩ := WkO.ex x 0 _ _ _ _ _ hx0 hok (by omega)
  have hhand := within_hands (8 - 1) (by omega) w.heap.size (w.heap.size + 1 + 1) W0 S x _ _ _ _ _ ys hx0 hok hys hS hb0.size hr2
  have hdeep := WkO.deep x 0 _ _ ys hys
  have hpob : ∀ p, p ∈ ((⟨0, x, .int .i64 k9, .int .i64 n9, .slice A29 m29 c29, .slice A39 m39 c39, .slice A49 m49 c49⟩ : Part) :: ys) → ObR W0 S p.x p.c0 p.c1 p.c2 p.c3 p.c4 ∧ p.a ≤ 100000000 := fun p hp => by
    rcases List.mem_cons.1 hp with rfl | hp
    · exact ⟨hx0, by dsimp only; omega⟩
    · exact ⟨WkO.obs x 0 _ _ ys hys p hp, WkO.small x 0 _ _ ys hys p hp⟩
  have hres : DD = deepP ((⟨0, x, .int .i64 k9, .int .i64 n9, .slice A29 m29 c29, .slice A39 m39 c39, .slice A49 m49 c49⟩ : Part) :: ys) := by
    rw [← hDD, deepP]
    dsimp only
    omega
  obtain ⟨XS, hXS⟩ : ∃ XS, ((⟨0, x, .int .i64 k9, .int .i64 n9, .slice A29 m29 c29, .slice A39 m39 c39, .slice A49 m49 c49⟩ : Part) :: ys) = XS := ⟨_, rfl⟩
  rw [hXS] at hhand hpob hres
  have HRES := Lib.hid hres
  have HPO := Lib.hid hpob
  have HB0 := Lib.hid hb0
  have HS0 := Lib.hid hs0
  have HS := Lib.hid hS
  clear hDD hdeep hx hx0 hys hres hpob hW0 hr2 hXS hok hht
  have hmem : ∀ (pre : List Part) (p : Part), pre ++ [p] <+: XS → p ∈ XS := fun pre p h => h.subset (by simp)
  have HMEM := Lib.hid hmem
  clear hmem
  refine wp_hands (α := Part) rfl (by omega) (gf := 61) (lb := #[.pointer (some ⟨w.heap.size + 1 + 1, 0, none⟩)]) rfl trivial (enters_of Try.func61 (by kernel_rfl) rfl)
    hhand (fun h k => h.trans k) (fun W l o o' => KpW.put hb0.size W l o o') (fun _ => rfl)
    (fun pre W => Below w.heap.size w W ∧ W.heap[w.heap.size + 1]? = some (.cells #[.int .i64 (deepP pre : Int)] 3 (0, 0)))
    (fun _ _ => False)
    (fun s A B row hs hg hr => ⟨hs.1.grown hg hs.1.size (fun k e => by have := (hr k e).1; omega), (hg.block _ (row_lt1 hs.2) (fun e => by have := (hr _ e.symm).1; omega)).trans hs.2⟩)
    (fun _ _ _ _ hs _ _ => hs)
    ⟨hb0, hr1⟩ (fun W W' h => KpW.below h)
    (fun p a' W => ∃ Bp, W.heap[Bp]? = some (.cells #[p.c0, p.c1, p.c2, p.c3, p.c4] 27 (0, 0)) ∧ a' = { tmps := #[.agg #[.int .i64 k9, .int .i64 n9, .slice A29 m29 c29, .slice A39 m39 c39, .slice A49 m49 c49], .pointer (some ⟨w.heap.size, 0, none⟩), .int .i64 0, .pointer (some ⟨w.heap.size + 1, 0, none⟩), .int .i64 p.a, .pointer (some ⟨Bp, 0, none⟩), .agg #[.int .i64 k9, .int .i64 n9, .slice A29 m29 c29, .slice A39 m39 c39, .slice A49 m49 c49], .func (.func 61) #[] #[.pointer (some ⟨w.heap.size + 1 + 1, 0, none⟩)], .int .i64 p.a, p.val, undef, undef, undef, undef, undef, undef, undef], defers := [] })
    (by
      rintro p a' W l o o' hl ho ⟨Bp, hB, e⟩
      exact ⟨Bp, (World.putObj_heap_other (fun e2 => by subst e2; rw [hl] at hB; injection hB with hB; subst hB; cases ho)).trans hB, e⟩) ?assign ?body ?done ?stop
  case assign =>
    intro l pre p W K hpx hK
    obtain ⟨hob, hpa⟩ := HPO.out p (HMEM.out pre p hpx)
    obtain ⟨pa, px, e0, e1, e2, e3, e4⟩ := p
    obtain ⟨ka, na, F2, r2, t2, F3, r3, t3, F4, r4, t4, z0, z1, z2, z3, z4⟩ := hob.form
    dsimp only at z0 z1 z2 z3 z4
    subst z0 z1 z2 z3 z4
    have HK := Lib.hid hK
    clear hK hob hpa hhand
    dsimp only [Part.val]
    gi_wp2
    exact HK.out _ _ ((Below.refl _ _).alloc (Nat.le_refl _) _) ⟨W.heap.size, heap_alloc_new W _, rfl⟩
  case body =>
    rintro l pre p a' W ⟨hB, hr⟩ ⟨Bp, hBp, rfl⟩ hpx
    obtain ⟨hob, hpa⟩ := HPO.out p (HMEM.out pre p hpx)
    have hkd := kind_c0 hob
    have hdp : deepP (pre ++ [p]) = max (deepP pre) (p.a + layN p.x) := by rw [deepP_app]; simp [deepP]
    obtain ⟨pa, px, e0, e1, e2, e3, e4⟩ := p
    obtain ⟨ka, na, F2, r2, t2, F3, r3, t3, F4, r4, t4, z0, z1, z2, z3, z4⟩ := hob.form
    dsimp only at z0 z1 z2 z3 z4 hBp hpa hkd hdp
    subst z0 z1 z2 z3 z4
    injection hkd with _ hkd
    have hly := layN_int px
    rw [← hkd] at hly
    obtain ⟨L1, hL1⟩ : ∃ L1 : Nat, layN px = L1 := ⟨_, rfl⟩
    have hL2 : L1 ≤ 1 := by rw [← hL1]; unfold layN; split <;> omega
    obtain ⟨D0, hD0⟩ : ∃ D0, deepP pre = D0 := ⟨_, rfl⟩
    rw [hL1] at hly hdp
    rw [hD0] at hdp hr
    have HDP := Lib.hid hdp
    have HLY : Hid (∀ W', Calls Try.prog 40 #[.agg #[.int .i64 ka, .int .i64 na, .slice F2 r2 t2, .slice F3 r3 t3, .slice F4 r4 t4]] W' fun e w' => e = .returned (.int .i64 (L1 : Int)) ∧ Below W'.heap.size W' w') := Lib.hid (fun W' => by rw [← hly]; exact layerC ka _ _ _ _ W')
    have HCE : Hid (∀ W', Below W.heap.size W W' → W'.cell? ⟨Bp, 0, none⟩ = some (.int .i64 ka) ∧ W'.cell? ⟨Bp, 1, none⟩ = some (.int .i64 na) ∧ W'.cell? ⟨Bp, 2, none⟩ = some (.slice F2 r2 t2) ∧ W'.cell? ⟨Bp, 3, none⟩ = some (.slice F3 r3 t3) ∧ W'.cell? ⟨Bp, 4, none⟩ = some (.slice F4 r4 t4) ∧ W'.cell? ⟨w.heap.size + 1, 0, none⟩ = some (.int .i64 (D0 : Int)) ∧ W'.frozen? ⟨w.heap.size + 1, 0, none⟩ = false) := Lib.hid (fun W' hW' => by
      have e1 := (hW'.block Bp (row_lt1 hBp)).trans hBp
      have e2 := (hW'.block _ (row_lt1 hr)).trans hr
      exact ⟨cell_of_row _ _ 0 _ _ (0, 0) e1, cell_of_row _ _ 1 _ _ (0, 0) e1, cell_of_row _ _ 2 _ _ (0, 0) e1, cell_of_row _ _ 3 _ _ (0, 0) e1, cell_of_row _ _ 4 _ _ (0, 0) e1, cell_of_row _ _ 0 _ _ (0, 0) e2, by simp [World.frozen?, e2]⟩)
    have HEND : Hid (∀ W', Below W.heap.size W W' → KeepsOthers W (W'.setCell ⟨w.heap.size + 1, 0, none⟩ (.int .i64 ((max D0 (pa + L1) : Nat) : Int))) ∧ KpW w.heap.size W (W'.setCell ⟨w.heap.size + 1, 0, none⟩ (.int .i64 ((max D0 (pa + L1) : Nat) : Int))) ∧ Below w.heap.size w (W'.setCell ⟨w.heap.size + 1, 0, none⟩ (.int .i64 ((max D0 (pa + L1) : Nat) : Int))) ∧ (W'.setCell ⟨w.heap.size + 1, 0, none⟩ (.int .i64 ((max D0 (pa + L1) : Nat) : Int))).heap[w.heap.size + 1]? = some (.cells #[.int .i64 ((max D0 (pa + L1) : Nat) : Int)] 3 (0, 0))) := Lib.hid (fun W' hW' => by
      have hr' := (hW'.block _ (row_lt1 hr)).trans hr
      have hk : KpW w.heap.size W' (W'.setCell ⟨w.heap.size + 1, 0, none⟩ (.int .i64 ((max D0 (pa + L1) : Nat) : Int))) := by
        have hb : ∀ g, g ≠ w.heap.size + 1 → (W'.setCell ⟨w.heap.size + 1, 0, none⟩ (.int .i64 ((max D0 (pa + L1) : Nat) : Int))).heap[g]? = W'.heap[g]? := fun g hg => set_blk9 W' (w.heap.size + 1) 0 g _ hg
        refine ⟨by rw [show (W'.setCell ⟨w.heap.size + 1, 0, none⟩ (.int .i64 ((max D0 (pa + L1) : Nat) : Int))).heap.size = W'.heap.size from by simp [World.setCell]]; exact Nat.le_refl _, fun g hg hn => hb g (by omega), fun g cur fr hg => hb g (fun e => ?_), fun g cur fr hg => hb g (fun e => ?_)⟩
        · rw [e, hr'] at hg; injection hg with hg; injection hg with _ h2 _; cases h2
        · rw [e, hr'] at hg; injection hg with hg; injection hg with _ h2 _; cases h2
      exact ⟨(others_below hW').trans (KeepsOthers.setCell _ _ _), (KpW.below hW').trans hk, (hB.trans (hW'.mono hB.size)).setCell (p := ⟨w.heap.size + 1, 0, none⟩) (by simp) _, heap_set W' (w.heap.size + 1) 0 _ [.int .i64 (D0 : Int)] _ hr'⟩)
    obtain ⟨q0, q1, q2, q3, q4, q5, q6⟩ := HCE.out W (Below.refl _ _)
    have HBR : Hid (Below W.heap.size W W.drew) := Lib.hid (Below.refl _ _).drew
    have hmx : Try.prog.follows .mixedOrders = true := by kernel_rfl
    have hv : max (D0 : Int) (IntKind.i64.wrap ((pa : Int) + (L1 : Int))) = ((max D0 (pa + L1) : Nat) : Int) := by
      rw [show IntKind.i64.wrap ((pa : Int) + (L1 : Int)) = (pa : Int) + (L1 : Int) from IntWalk.i64_in _ (by omega)]
      omega
    clear hob hkd hly hL1 hBp hB hr hpx hhand hr1 hb0 hs0 hdp hD0
    dsimp only [Part.val]
    gi_wp2
    gi_region_with_o (refine ⟨trivial, ?_⟩; gi_at_call 40; refine (CallsIn.inRound l (callsIn_wide.2 (HLY.out _))).mono ?_; (rintro e w4 ⟨rfl, hb4⟩); have HB4 := Lib.hid (HBR.out.trans (hb4.mono HBR.out.size)); clear hb4 q0 q1 q2 q3 q4 q5 q6; (obtain ⟨q0, q1, q2, q3, q4, q5, q6⟩ := HCE.out _ HB4.out))
    all_goals
      (try rw [hv])
      clear q0 q1 q2 q3 q4 q5 q6
      gi_wp2
      have hf := HEND.out _ HB4.out
      exact ⟨hf.1, hf.2.1, hf.2.2.1, by rw [HDP.out]; exact hf.2.2.2⟩
  case done =>
    rintro D W hD ⟨hB, hr⟩ hK
    have hc := cell_of_row W _ 0 _ _ (0, 0) hr
    rw [← HRES.out] at hc
    gi_wp2
    refine ⟨by simp, .inl ⟨_, _, rfl, run_takeDeferred hK, ?_⟩⟩
    exact ⟨_, results_tmp rfl _ _ _, rfl, hB.trans (belowK_b (w := w) (Nat.le_refl _) W D _ _ (by omega) hK rfl rfl)⟩
  case stop =>
    rintro D pre W hD hpre h
    exact h.elim
end

section
open Go.RowKit Go.BigFrame Go.Sort
set_option linter.unusedVariables false
set_option maxRecDepth 100000
attribute [local go_sem] Oper.semAt_some
theorem infoInt14 : (Try.prog.info? 3).map (fun i => (i.zero, i.size, i.bytes)) = some (some (.int .i64 0), 1, 8) := by kernel_rfl
/-- A row of whole numbers is no place, nor what is no cells. -/
theorem ints_no {w : World} {base : Nat} {v : Value} {xs : List Value} (h : OwnV w base 3 v xs) (b : Nat) (hb : v.ownBlock = some b) : ¬ Tagged w b := by
  rintro ⟨o, ho, hc⟩
  rcases h.2 with ⟨rfl, _⟩ | ⟨g, cap, cur, rfl, h2, hh, _⟩
  · cases hb
  · injection hb with hb
    dsimp only at hb
    subst hb
    rw [hh] at ho
    injection ho with ho
    subst ho
    rcases hc with hc | ⟨cur', fr, hc⟩
    · cases hc
    · injection hc with _ h3 _
      cases h3
set_option maxHeartbeats 16000000 in
theorem pRefsC (x : Ob) (S : Nat → Prop) (w : World) (c0 c1 c2 c3 c4 : Value) (hx : ObR w S x c0 c1 c2 c3 c4) (hS : ∀ g, S g → g < w.heap.size) (hok : okO x) (hht : htO x ≤ 100000000) (hrl : (refsO x).length ≤ 1000000000) :
    Calls Try.prog 14 #[.agg #[c0, c1, c2, c3, c4]] w fun r w' => (∃ v, r = .returned v ∧ OwnV w' w.heap.size 3 v ((refsO x).map (.int .i64 ·))) ∧ Below w.heap.size w w' := by
  obtain ⟨k9, n9, A29, m29, c29, A39, m39, c39, A49, m49, c49, rfl, rfl, rfl, rfl, rfl⟩ := hx.form
  obtain ⟨RR, hRR⟩ : ∃ RR, refsO x = RR := ⟨_, rfl⟩
  rw [hRR] at hrl ⊢
  refine (callsIn_wide (n := 8)).1 ?_
  refine callsIn_of_wp_marks Try.func14 rfl trivial ?_ rfl
  simp only [Try.ntmps14, List.size_toArray, List.length_cons, List.length_nil, Nat.reduceAdd, Nat.reduceSub, Array.replicate_succ, Array.replicate_zero, List.push_toArray, List.append_toArray, List.nil_append, List.cons_append]
  gi_wp2_with (refine ⟨trivial, ?_⟩; gi_at_call 39; refine (callsIn_wide.2 (withinC _ _ _ _ _ _ _ _ _ _ _ _)).mono ?_; rintro e w' ⟨rfl, rfl⟩)
  have hb0 : Below w.heap.size w (((w.alloc (.cells #[.int .i64 k9, .int .i64 n9, .slice A29 m29 c29, .slice A39 m39 c39, .slice A49 m49 c49] 27)).alloc (.cells #[.slice none 0 0] 35)).alloc (.cells #[.int .i64 k9, .int .i64 n9, .slice A29 m29 c29, .slice A39 m39 c39, .slice A49 m49 c49] 27)) := (((Below.refl _ w).alloc (Nat.le_refl _) _).alloc (by simp) _).alloc (by simp; omega) _
  have hs0 : (((w.alloc (.cells #[.int .i64 k9, .int .i64 n9, .slice A29 m29 c29, .slice A39 m39 c39, .slice A49 m49 c49] 27)).alloc (.cells #[.slice none 0 0] 35)).alloc (.cells #[.int .i64 k9, .int .i64 n9, .slice A29 m29 c29, .slice A39 m39 c39, .slice A49 m49 c49] 27)).heap.size = w.heap.size + 3 := by simp
  have hr1 : (((w.alloc (.cells #[.int .i64 k9, .int .i64 n9, .slice A29 m29 c29, .slice A39 m39 c39, .slice A49 m49 c49] 27)).alloc (.cells #[.slice none 0 0] 35)).alloc (.cells #[.int .i64 k9, .int .i64 n9, .slice A29 m29 c29, .slice A39 m39 c39, .slice A49 m49 c49] 27)).heap[w.heap.size + 1]? = some (.cells #[.slice none 0 0] 35 (0, 0)) := by
    rw [heap_alloc_old (o := _) (h := by simp)]
    exact heap_alloc2_new w _ _
  have hr2 : (((w.alloc (.cells #[.int .i64 k9, .int .i64 n9, .slice A29 m29 c29, .slice A39 m39 c39, .slice A49 m49 c49] 27)).alloc (.cells #[.slice none 0 0] 35)).alloc (.cells #[.int .i64 k9, .int .i64 n9, .slice A29 m29 c29, .slice A39 m39 c39, .slice A49 m49 c49] 27)).heap[w.heap.size + 1 + 1]? = some (.cells #[.int .i64 k9, .int .i64 n9, .slice A29 m29 c29, .slice A39 m39 c39, .slice A49 m49 c49] 27 (0, 0)) := by
    have := heap_alloc_new ((w.alloc (.cells #[.int .i64 k9, .int .i64 n9, .slice A29 m29 c29, .slice A39 m39 c39, .slice A49 m49 c49] 27)).alloc (.cells #[.slice none 0 0] 35)) (.cells #[.int .i64 k9, .int .i64 n9, .slice A29 m29 c29, .slice A39 m39 c39, .slice A49 m49 c49] 27)
    simpa using this
  obtain ⟨W0, hW0⟩ : ∃ W0, ((w.alloc (.cells #[.int .i64 k9, .int .i64 n9, .slice A29 m29 c29, .slice A39 m39 c39, .slice A49 m49 c49] 27)).alloc (.cells #[.slice none 0 0] 35)).alloc (.cells #[.int .i64 k9, .int .i64 n9, .slice A29 m29 c29, .slice A39 m39 c39, .slice A49 m49 c49] 27) = W0 := ⟨_, rfl⟩
  rw [hW0] at hb0 hs0 hr1 hr2 ⊢
  have hx0 : ObR W0 S x (.int .i64 k9) (.int .i64 n9) (.slice A29 m29 c29) (.slice A39 m39 c39) (.slice A49 m49 c49) := ObR.keep (fun g hg => hb0.block g (hS g hg)) (fun _ h => h) _ hx
  obtain ⟨ys, hys⟩ := WkO.ex x 0 _ _ _ _ _ hx0 hok (by omega)
  have hhand := within_hands (8 - 1) (by omega) w.heap.size (w.heap.size + 1 + 1) W0 S x _ _ _ _ _ ys hx0 hok hys hS hb0.size hr2
  have hrefs := WkO.refs x 0 _ _ ys hys
  have hpob : ∀ p, p ∈ ((⟨0, x, .int .i64 k9, .int .i64 n9, .slice A29 m29 c29, .slice A39 m39 c39, .slice A49 m49 c49⟩ : Part) :: ys) → ObR W0 S p.x p.c0 p.c1 p.c2 p.c3 p.c4 ∧ p.a ≤ 100000000 := fun p hp => by
    rcases List.mem_cons.1 hp with rfl | hp
    · exact ⟨hx0, by dsimp only; omega⟩
    · exact ⟨WkO.obs x 0 _ _ ys hys p hp, WkO.small x 0 _ _ ys hys p hp⟩
  have hres : RR = refsP ((⟨0, x, .int .i64 k9, .int .i64 n9, .slice A29 m29 c29, .slice A39 m39 c39, .slice A49 m49 c49⟩ : Part) :: ys) := by
    rw [← hRR, ← hrefs]
    simp [refsP]
  obtain ⟨XS, hXS⟩ : ∃ XS, ((⟨0, x, .int .i64 k9, .int .i64 n9, .slice A29 m29 c29, .slice A39 m39 c39, .slice A49 m49 c49⟩ : Part) :: ys) = XS := ⟨_, rfl⟩
  rw [hXS] at hhand hpob hres
  have HRES := Lib.hid hres
  have HPO := Lib.hid hpob
  have HB0 := Lib.hid hb0
  have HS0 := Lib.hid hs0
  have HS := Lib.hid hS
  have HRL := Lib.hid hrl
  clear hRR hrl hrefs hx hx0 hys hres hpob hW0 hr2 hXS hok hht
  have hmem : ∀ (pre : List Part) (p : Part), pre ++ [p] <+: XS → p ∈ XS := fun pre p h => h.subset (by simp)
  have HMEM := Lib.hid hmem
  clear hmem
  refine wp_hands (α := Part) rfl (by omega) (gf := 61) (lb := #[.pointer (some ⟨w.heap.size + 1 + 1, 0, none⟩)]) rfl trivial (enters_of Try.func61 (by kernel_rfl) rfl)
    hhand (fun h k => h.trans k) (fun W l o o' => KpW.put hb0.size W l o o') (fun _ => rfl)
    (fun pre W => ∃ v, W.heap[w.heap.size + 1]? = some (.cells #[v] 35 (0, 0)) ∧ OwnV W w.heap.size 3 v ((refsP pre).map (.int .i64 ·)) ∧ Below w.heap.size w W)
    (fun _ _ => False)
    (fun s A B row ⟨v, hs1, hs2, hs3⟩ hg hr => ⟨v, (hg.block _ (row_lt1 hs1) (fun e => by have := (hr _ e.symm).1; omega)).trans hs1, hs2.same (fun b hb => hg.block b (hs2.lt b hb).1 (fun e => ints_no hs2 b hb (hr _ e.symm).2)), hs3.grown hg hs3.size (fun k e => by have := (hr k e).1; omega)⟩)
    (fun _ _ _ _ hs _ _ => hs)
    ⟨_, hr1, OwnV.nil _ _ _, hb0⟩ (fun W W' h => KpW.below h)
    (fun p a' W => ∃ Bp, W.heap[Bp]? = some (.cells #[p.c0, p.c1, p.c2, p.c3, p.c4] 27 (0, 0)) ∧ a' = { tmps := #[.agg #[.int .i64 k9, .int .i64 n9, .slice A29 m29 c29, .slice A39 m39 c39, .slice A49 m49 c49], .pointer (some ⟨w.heap.size, 0, none⟩), .slice none 0 0, .pointer (some ⟨w.heap.size + 1, 0, none⟩), undef, .pointer (some ⟨Bp, 0, none⟩), .agg #[.int .i64 k9, .int .i64 n9, .slice A29 m29 c29, .slice A39 m39 c39, .slice A49 m49 c49], .func (.func 61) #[] #[.pointer (some ⟨w.heap.size + 1 + 1, 0, none⟩)], .int .i64 p.a, p.val, undef, undef, undef, undef, undef, undef, undef, undef, undef], defers := [] })
    (by
      rintro p a' W l o o' hl ho ⟨Bp, hB, e⟩
      exact ⟨Bp, (World.putObj_heap_other (fun e2 => by subst e2; rw [hl] at hB; injection hB with hB; subst hB; cases ho)).trans hB, e⟩) ?assign ?body ?done ?stop
  case assign =>
    intro l pre p W K hpx hK
    obtain ⟨hob, hpa⟩ := HPO.out p (HMEM.out pre p hpx)
    obtain ⟨pa, px, e0, e1, e2, e3, e4⟩ := p
    obtain ⟨ka, na, F2, r2, t2, F3, r3, t3, F4, r4, t4, z0, z1, z2, z3, z4⟩ := hob.form
    dsimp only at z0 z1 z2 z3 z4
    subst z0 z1 z2 z3 z4
    have HK := Lib.hid hK
    clear hK hob hpa hhand
    dsimp only [Part.val]
    gi_wp2
    exact HK.out _ _ ((Below.refl _ _).alloc (Nat.le_refl _) _) ⟨W.heap.size, heap_alloc_new W _, rfl⟩
  case body =>
    rintro l pre p a' W ⟨v, hr, hown, hB⟩ ⟨Bp, hBp, rfl⟩ hpx
    obtain ⟨hob, hpa⟩ := HPO.out p (HMEM.out pre p hpx)
    have hkd := kind_c0 hob
    have hrp : refsP (pre ++ [p]) = refsP pre ++ refN p.x := by simp [refsP]
    have hrl2 : (refsP pre).length ≤ 1000000000 := by
      obtain ⟨t, ht⟩ := hpx
      have h1 := HRL.out
      rw [HRES.out, ← ht] at h1
      have h2 : (refsP (pre ++ [p] ++ t)).length = (refsP pre).length + (refsP ([p] ++ t)).length := by simp [refsP]
      omega
    obtain ⟨pa, px, e0, e1, e2, e3, e4⟩ := p
    obtain ⟨ka, na, F2, r2, t2, F3, r3, t3, F4, r4, t4, z0, z1, z2, z3, z4⟩ := hob.form
    dsimp only at z0 z1 z2 z3 z4 hBp hpa hkd hrp
    have hn1 : ∃ k' n' b' l' d', px = .mk k' n' b' l' d' ∧ k' = ka ∧ n' = na := by
      obtain ⟨k', n', b', l', d'⟩ := px
      dsimp only at hob
      unfold ObR at hob
      refine ⟨k', n', b', l', d', rfl, ?_, ?_⟩
      · have := hob.1.symm.trans z0; injection this
      · have := hob.2.1.symm.trans z1; injection this
    subst z0 z1 z2 z3 z4
    obtain ⟨k', n', b', l', d', hpx2, rfl, rfl⟩ := hn1
    have hn2 : refN px = if k' = 9 then [n'] else [] := by rw [hpx2]; rfl
    have e1 := hBp
    obtain ⟨q0, q1, q2, q3, q4, -⟩ := row5_cells hBp
    have q5 := cell_of_row W _ 0 _ _ (0, 0) hr
    have q6 : W.frozen? ⟨w.heap.size + 1, 0, none⟩ = false := by simp [World.frozen?, hr]
    clear hob hkd hhand hr1 hb0 hs0 e1
    by_cases hk9 : k' = 9
    · have hk9b : (k' == 9) = true := beq_iff_eq.2 hk9
      rw [if_pos hk9] at hn2
      clear hk9
      obtain ⟨i0, hi, hz0, hz1, hz2⟩ := info_parts infoInt14
      have hwa := (Below.refl W.heap.size W).alloc (Nat.le_refl _) (.cells #[.int .i64 n'] 3)
      have hnew := heap_alloc_new W (.cells #[.int .i64 n'] 3)
      obtain ⟨v', w', hrun, hown', hkx, A', c', hv'⟩ := OwnV.append1 (hown.low hwa) 35 35 i0 (.int .i64 0) 8 Try.underlying35 hi hz0 hz1 hz2 rfl (by decide) W.heap.size (.int .i64 n') (by rw [cell_of_row _ _ 0 _ _ (0, 0) hnew]; rfl) rfl (by rw [List.length_map]; exact hrl2) (by have := hB.size; have := hwa.size; omega)
      have hgrow : (W.alloc (.cells #[.int .i64 n'] 3)).grownBy w' v.ownBlock := ⟨hkx.os, hkx.tape, hkx.output, hkx.size, fun k hk hne => hkx.block k hk (fun e => hne e.symm)⟩
      obtain ⟨b1, b2, b3, b4, b5⟩ := Boxed.appended (t := 35) (tmp := .cells #[.int .i64 n'] 3) hr (by decide) hown hB.size (Nat.le_succ _) hown' hgrow
      have hkp : KpW w.heap.size W (w'.setCell ⟨w.heap.size + 1, 0, none⟩ v') := by
        have hb : ∀ (g : Nat) (cur : Array Value) (T : TypeId) (fr : Nat × Nat), W.heap[g]? = some (Obj.cells cur T fr) → T ≠ 3 → T ≠ 35 → (w'.setCell ⟨w.heap.size + 1, 0, none⟩ v').heap[g]? = W.heap[g]? := fun g cur T fr hg h1 h2 => by
          have hlt := row_lt1 hg
          have e1 : g ≠ w.heap.size + 1 := fun e => by
            rw [e, show W.heap[w.heap.size + 1]? = _ from hr] at hg
            injection hg with hg
            injection hg with _ h3 _
            exact h2 h3.symm
          have e2 : some g ≠ v.ownBlock := fun e => by
            rcases hown.2 with ⟨rfl, _⟩ | ⟨g', cap, cur', rfl, h3, hh, _⟩
            · cases e
            · injection e with e
              dsimp only at e
              subst e
              rw [hh] at hg
              injection hg with hg
              injection hg with _ h3 _
              exact h1 h3.symm
          exact (set_blk9 w' (w.heap.size + 1) 0 g _ e1).trans ((hgrow.block g (Nat.lt_of_lt_of_le hlt hwa.size) e2).trans (hwa.block g hlt))
        exact ⟨b5.size, fun g hg hn => b5.block g hn, fun g cur fr hg => hb g cur _ fr hg (by decide) (by decide), fun g cur fr hg => hb g cur _ fr hg (by decide) (by decide)⟩
      have q7 := b1.cell
      have q8 := b1.frozen
      have HF := Lib.hid (And.intro b4 (And.intro hkp (And.intro b2 (And.intro b3 (hB.trans b5)))))
      have HRP : Hid ((refsP (pre ++ [⟨pa, px, .int .i64 k', .int .i64 n', .slice F2 r2 t2, .slice F3 r3 t3, .slice F4 r4 t4⟩])).map (fun z => Value.int .i64 z) = (refsP pre).map (fun z => Value.int .i64 z) ++ [.int .i64 n']) := Lib.hid (by rw [hrp, hn2]; simp)
      have HRUN := Lib.hid hrun
      obtain ⟨A0, cc0, hvs⟩ := hown.shape
      generalize (List.map (fun x => Value.int IntKind.i64 x) (refsP pre)).length = LN at hvs hv'
      subst hvs hv'
      clear hrun hn2 hrp hown hown' hkx hgrow b1 b2 b3 b4 b5 hkp hwa hnew hi hz0 hz1 hz2 hr hB hpx hpx2 hBp
      dsimp only [Part.val]
      gi_wp2_with (gi_at_builtin; refine wpIn_append_run14 rfl (.tmp 13) (.tmp 16) 35 rfl _ _ _ rfl rfl HRUN.out ?_; clear q0 q1 q2 q3 q4 q5 q6)
      exact ⟨HF.out.1, HF.out.2.1, _, HF.out.2.2.1, by rw [HRP.out]; exact HF.out.2.2.2.1, HF.out.2.2.2.2⟩
    · have hk9b : (k' == 9) = false := beq_eq_false_iff_ne.2 hk9
      rw [if_neg hk9] at hn2
      have HI := Lib.hid (show OwnV W w.heap.size 3 v ((refsP (pre ++ [⟨pa, px, .int .i64 k', .int .i64 n', .slice F2 r2 t2, .slice F3 r3 t3, .slice F4 r4 t4⟩])).map (.int .i64 ·)) by rw [hrp, hn2, List.append_nil]; exact hown)
      have HR := Lib.hid hr
      have HB := Lib.hid hB
      clear hk9 hn2 hrp hown hr hB hpx hpx2 hBp
      dsimp only [Part.val]
      gi_wp2
      exact ⟨KeepsOthers.refl _, KpW.below (Below.refl _ _), v, HR.out, HI.out, HB.out⟩
  case done =>
    rintro D W hD ⟨v, hr, hown, hB⟩ hK
    have hc := cell_of_row W _ 0 _ _ (0, 0) hr
    rw [← HRES.out] at hown
    gi_wp2
    refine ⟨by simp, .inl ⟨_, _, rfl, run_takeDeferred hK, ?_⟩⟩
    exact ⟨_, results_tmp rfl _ _ _, ⟨v, rfl, hown.same (fun b hb => World.putObj_heap_other (fun e => ints_no hown b hb ⟨_, by rw [← e] at hK; exact hK, .inl rfl⟩))⟩, hB.trans (belowK_b (w := w) (Nat.le_refl _) W D _ _ (by omega) hK rfl rfl)⟩
  case stop =>
    rintro D pre W hD hpre h
    exact h.elim
end

section
open Go Go.RowKit Go.Sort
set_option linter.unusedVariables false
set_option maxRecDepth 100000
section
variable {P : Program} {l : List Oper} {md : Region.Mode} {Q : Exit → Act → World → Prop} {S : World → Prop} {L : Nat}
theorem wpAnyR_two (i j : Nat) {oi oj : Oper} {ri rj : List Oper} {fuel : Nat} {listed : Array Bool} {a : Act} {w : World} (hdi : l.drop i = oi :: ri) (hdj : l.drop j = oj :: rj) (hr : Region.ready md l.toArray listed = [i, j])
    (hi : ∀ K' : Act → World → Prop, Shut (∀ a w, S w → (S w → wpAnyR P md l.toArray Q S L fuel (listed.setIfInBounds i true) a w) → K' a w) → if Region.wanted oi (yielded l.toArray a.tmps) = true then Oper.wp P oi a w K' Q else K' (a.put oi.dst undef) w)
    (hj : ∀ K' : Act → World → Prop, Shut (∀ a w, S w → (S w → wpAnyR P md l.toArray Q S L fuel (listed.setIfInBounds j true) a w) → K' a w) → if Region.wanted oj (yielded l.toArray a.tmps) = true then Oper.wp P oj a w K' Q else K' (a.put oj.dst undef) w) :
    wpAnyR P md l.toArray Q S L (fuel + 1) listed a w := by
  refine ⟨fun h0 => (by rw [hr] at h0; cases h0), fun k hk => ?_⟩
  rw [hr] at hk
  rcases List.mem_cons.1 hk with rfl | hk
  · exact wpOp_step (get_of_drop hdi) (fun K' hK => hi K' (fun a w hS hW => hK a w ⟨fun _ => hS, hW hS⟩))
  · obtain rfl := List.mem_singleton.1 hk
    exact wpOp_step (get_of_drop hdj) (fun K' hK => hj K' (fun a w hS hW => hK a w ⟨fun _ => hS, hW hS⟩))
end
/-- A row of whole numbers. -/
def IntV (w : World) (A : Option Addr) (xs : List Int) : Prop := 0 < xs.length → ∃ g o, A = some ⟨g, o, none⟩ ∧ g < w.heap.size ∧ ∀ i z, xs[i]? = some z → w.cell? ⟨g, o + i, none⟩ = some (.int .i64 z)
set_option maxHeartbeats 4000000 in
theorem intsC (xs : List Int) (A B : Option Addr) (c c' : Nat) (w : World) (hA : IntV w A xs) (hB : IntV w B xs) (hl : xs.length ≤ 1000000000) :
    Calls Try.prog 13 #[.slice A xs.length c, .slice B xs.length c'] w fun r w' => r = .returned (.bool true) ∧ Below w.heap.size w w' := by
  obtain ⟨LL, hLL⟩ : ∃ LL, xs.length = LL := ⟨_, rfl⟩
  have HLL := Lib.hid hLL
  have HA := Lib.hid hA
  have HB := Lib.hid hB
  rw [hLL] at hl ⊢
  clear hA hB hLL
  go_enter Try.func13, Try.ntmps13
  go_wp2_with fail
  go_loopw [5] (fun iv wr => ∃ (i : Nat), i ≤ LL ∧ iv = .int .i64 i ∧ Hid (Below w.heap.size w wr)) (fun iv _ => LL - (intOf iv).toNat)
  case atStart => exact ⟨0, Nat.zero_le _, rfl, Lib.hid (Below.refl _ _)⟩
  case round =>
    obtain ⟨i, hi, rfl, HBE⟩ := hrel
    by_cases hlt : i < LL
    · obtain ⟨z, hz⟩ : ∃ z, xs[i]? = some z := ⟨xs[i]'(by rw [HLL.out]; exact hlt), List.getElem?_eq_getElem _⟩
      obtain ⟨g, o, rfl, hg, hc⟩ := HA.out (by rw [HLL.out]; omega)
      obtain ⟨g2, o2, rfl, hg2, hc2⟩ := HB.out (by rw [HLL.out]; omega)
      have HK : Hid (∀ W, Below w.heap.size w W → W.cell? ⟨g, o + i, none⟩ = some (.int .i64 z) ∧ W.cell? ⟨g2, o2 + i, none⟩ = some (.int .i64 z)) := Lib.hid (fun W hW => ⟨(World.cell?_of_block (a := ⟨g, o + i, none⟩) (hW.block g hg)).trans (hc i z hz), (World.cell?_of_block (a := ⟨g2, o2 + i, none⟩) (hW.block g2 hg2)).trans (hc2 i z hz)⟩)
      have hli : (i : Int) < LL := by omega
      have HBD := Lib.hid HBE.out.drew
      have w2 : IntKind.i64.wrap (i : Int) = i := IntWalk.i64_in _ (by omega)
      have hjb : (0 ≤ (i : Int) ∧ (i : Int) < (LL : Int)) = True := eq_true ⟨by omega, by omega⟩
      clear hz hg hg2 hc hc2
      go_upto_region 6 with fail
      refine wp_region_heldR (fun W => W.cell? ⟨g, o + i, none⟩ = some (.int .i64 z) ∧ W.cell? ⟨g2, o2 + i, none⟩ = some (.int .i64 z)) 1000 (by kernel_rfl) (HK.out _ HBD.out) (fun hHeld => ?_)
      refine wpAnyR_take 0 rfl (by kernel_rfl) (by kernel_rfl) (by kernel_rfl) (by kernel_rfl) (fun _ _ _ h => h) (by rfl) (v := ?_) ?_ (by assumption) ?_
      rotate_left
      focus
        intro wS hSw
        (try dsimp only at hSw)
        go_simp
        (try simp only [hSw])
        (try simp only [w2, hjb, if_true, Int.toNat_natCast])
        (try simp only [bne_self_eq_false])
        try with_reducible rfl
      intro hHeld
      try simp only [Act.put, List.setIfInBounds_toArray, List.set_cons_zero, List.set_cons_succ]
      refine wpAnyR_take 1 rfl (by kernel_rfl) (by kernel_rfl) (by kernel_rfl) (by kernel_rfl) (fun _ _ _ h => h) (by rfl) (v := ?_) ?_ (by assumption) ?_
      rotate_left
      focus
        intro wS hSw
        (try dsimp only at hSw)
        go_simp
        (try simp only [hSw])
        (try simp only [w2, hjb, if_true, Int.toNat_natCast])
        (try simp only [bne_self_eq_false])
        try with_reducible rfl
      intro hHeld
      try simp only [Act.put, List.setIfInBounds_toArray, List.set_cons_zero, List.set_cons_succ]
      refine wpAnyR_take 2 rfl (by kernel_rfl) (by kernel_rfl) (by kernel_rfl) (by kernel_rfl) (fun _ _ _ h => h) (by rfl) (v := ?_) ?_ (by assumption) ?_
      rotate_left
      focus
        intro wS hSw
        (try dsimp only at hSw)
        go_simp
        (try simp only [hSw])
        (try simp only [w2, hjb, if_true, Int.toNat_natCast])
        (try simp only [bne_self_eq_false])
        try with_reducible rfl
      intro hHeld
      try simp only [Act.put, List.setIfInBounds_toArray, List.set_cons_zero, List.set_cons_succ]
      refine wpAnyR_take 3 rfl (by kernel_rfl) (by kernel_rfl) (by kernel_rfl) (by kernel_rfl) (fun _ _ _ h => h) (by rfl) (v := ?_) ?_ (by assumption) ?_
      rotate_left
      focus
        intro wS hSw
        (try dsimp only at hSw)
        go_simp
        (try simp only [hSw])
        (try simp only [w2, hjb, if_true, Int.toNat_natCast])
        (try simp only [bne_self_eq_false])
        try with_reducible rfl
      intro hHeld
      try simp only [Act.put, List.setIfInBounds_toArray, List.set_cons_zero, List.set_cons_succ]
      refine wpAnyR_take 4 rfl (by kernel_rfl) (by kernel_rfl) (by kernel_rfl) (by kernel_rfl) (fun _ _ _ h => h) (by rfl) (v := ?_) ?_ (by assumption) ?_
      rotate_left
      focus
        intro wS hSw
        (try dsimp only at hSw)
        go_simp
        (try simp only [hSw])
        (try simp only [w2, hjb, if_true, Int.toNat_natCast])
        (try simp only [bne_self_eq_false])
        try with_reducible rfl
      intro hHeld
      try simp only [Act.put, List.setIfInBounds_toArray, List.set_cons_zero, List.set_cons_succ]
      refine wpAnyR_take 5 rfl (by kernel_rfl) (by kernel_rfl) (by kernel_rfl) (by kernel_rfl) (fun _ _ _ h => h) (by rfl) (v := ?_) ?_ (by assumption) ?_
      rotate_left
      focus
        intro wS hSw
        (try dsimp only at hSw)
        go_simp
        (try simp only [hSw])
        (try simp only [w2, hjb, if_true, Int.toNat_natCast])
        (try simp only [bne_self_eq_false])
        try with_reducible rfl
      intro hHeld
      try simp only [Act.put, List.setIfInBounds_toArray, List.set_cons_zero, List.set_cons_succ]
      refine wpAnyR_take 6 rfl (by kernel_rfl) (by kernel_rfl) (by kernel_rfl) (by kernel_rfl) (fun _ _ _ h => h) (by rfl) (v := ?_) ?_ (by assumption) ?_
      rotate_left
      focus
        intro wS hSw
        (try dsimp only at hSw)
        go_simp
        (try simp only [hSw])
        (try simp only [w2, hjb, if_true, Int.toNat_natCast])
        (try simp only [bne_self_eq_false])
        try with_reducible rfl
      intro hHeld
      try simp only [Act.put, List.setIfInBounds_toArray, List.set_cons_zero, List.set_cons_succ]
      refine wpAnyR_take 7 rfl (by kernel_rfl) (by kernel_rfl) (by kernel_rfl) (by kernel_rfl) (fun _ _ _ h => h) (by rfl) (v := ?_) ?_ (by assumption) ?_
      rotate_left
      focus
        intro wS hSw
        (try dsimp only at hSw)
        go_simp
        (try simp only [hSw])
        (try simp only [w2, hjb, if_true, Int.toNat_natCast])
        (try simp only [bne_self_eq_false])
        try with_reducible rfl
      intro hHeld
      try simp only [Act.put, List.setIfInBounds_toArray, List.set_cons_zero, List.set_cons_succ]
      refine wpAnyR_take 8 rfl (by kernel_rfl) (by kernel_rfl) (by kernel_rfl) (by kernel_rfl) (fun _ _ _ h => h) (by rfl) (v := ?_) ?_ (by assumption) ?_
      rotate_left
      focus
        intro wS hSw
        (try dsimp only at hSw)
        go_simp
        (try simp only [hSw])
        (try simp only [w2, hjb, if_true, Int.toNat_natCast])
        (try simp only [bne_self_eq_false])
        try with_reducible rfl
      intro hHeld
      try simp only [Act.put, List.setIfInBounds_toArray, List.set_cons_zero, List.set_cons_succ]
      refine wpAnyR_done (by kernel_rfl) ?_
      refine NoPanic.normal ?_
      go_wp2_with fail
      go_roundw
      case rel => exact ⟨i + 1, by omega, by go_num, HBD⟩
      case measure => simp [intOf]; omega
    · have hli : ¬ (i : Int) < LL := by omega
      clear hlt hi
      go_wp2_with fail
      go_ret
      exact ⟨rfl, HBE.out⟩
theorem OwnV.ints {w w' : World} {base : Nat} {v : Value} {xs : List Int} (h : OwnV w base 3 v (xs.map (fun z => Value.int .i64 z))) : ∃ A c, v = .slice A xs.length c ∧ ∀ W, Below w.heap.size w W → IntV W A xs := by
  obtain ⟨A, c, e⟩ := h.shape
  rw [List.length_map] at e
  refine ⟨A, c, e, fun W hW h0 => ?_⟩
  obtain ⟨g, c', e', hg, hc⟩ := OwnV.cell h (by rw [List.length_map]; exact h0)
  rw [e] at e'
  injection e' with e1 _ _
  refine ⟨g, 0, e1, Nat.lt_of_lt_of_le hg hW.size, fun i z hz => ?_⟩
  have hi := (List.getElem?_eq_some_iff.1 hz).1
  rw [Nat.zero_add, World.cell?_of_block (a := ⟨g, i, none⟩) (hW.block g hg), hc i (by rw [List.length_map]; exact hi)]
  rw [List.getElem_map, (List.getElem?_eq_some_iff.1 hz).2]
end
end Go.Proofs.Ytdkmomdioiipjaa
