/- Contracts of functions that the law calls, and what they lean on (a part). -/
import Derived.Test.YtliieeagbpmcgaaDoorPu38
import Derived.Test.YtliieeagbpmcgaaDoorPu41
namespace Go.Proofs.YtliieeagbpmcgaaDoor
section
open Go.RowKit Go.BigFrame Go.Sort
set_option linter.unusedVariables false
set_option maxRecDepth 100000
attribute [local go_sem] Oper.semAt_some
mutual
theorem WkO.small {w : World} {S : Nat → Prop} : ∀ (x : Ob) (a : Nat) (c3 c4 : Value) (ys : List Part), WkO w S a x c3 c4 ys → ∀ p ∈ ys, p.a ≤ 100000000
  | .mk k n b l d, a, c3, c4, ys, h => by
    unfold WkO at h
    split at h
    · obtain ⟨A, m, c, g, o, _, _, _, _, h⟩ := h
      exact WkL.small l (a + 1) g o ys h
    · split at h
      · obtain ⟨A, m, c, g, o, _, _, _, _, h⟩ := h
        exact WkE.small d (a + 1) g o ys h
      · subst h
        intro p hp
        cases hp
theorem WkL.small {w : World} {S : Nat → Prop} : ∀ (l : Obs) (a g o : Nat) (ys : List Part), WkL w S a l g o ys → ∀ p ∈ ys, p.a ≤ 100000000
  | .nil, a, g, o, ys, h => by
    unfold WkL at h
    subst h
    intro p hp
    cases hp
  | .cons x xs, a, g, o, ys, h => by
    unfold WkL at h
    obtain ⟨c0, c1, c2, c3, c4, y1, y2, _, hx, hk, h1, h2, rfl⟩ := h
    intro p hp
    rcases List.mem_cons.1 hp with rfl | hp
    · have := hk.2; dsimp only; omega
    · rcases List.mem_append.1 hp with hp | hp
      · exact WkO.small x a c3 c4 y1 h1 p hp
      · exact WkL.small xs a g (o + 5) y2 h2 p hp
theorem WkE.small {w : World} {S : Nat → Prop} : ∀ (d : Ens) (a g o : Nat) (ys : List Part), WkE w S a d g o ys → ∀ p ∈ ys, p.a ≤ 100000000
  | .nil, a, g, o, ys, h => by
    unfold WkE at h
    subst h
    intro p hp
    cases hp
  | .cons s x xs, a, g, o, ys, h => by
    unfold WkE at h
    obtain ⟨c0, c1, c2, c3, c4, y1, y2, _, hx, hk, h1, h2, rfl⟩ := h
    intro p hp
    rcases List.mem_cons.1 hp with rfl | hp
    · have := hk.2; dsimp only; omega
    · rcases List.mem_append.1 hp with hp | hp
      · exact WkO.small x a c3 c4 y1 h1 p hp
      · exact WkE.small xs a g (o + 6) y2 h2 p hp
end
theorem others_below {W W' : World} (h : Below W.heap.size W W') : KeepsOthers W W' := ⟨h.size, fun k o hk _ => (h.block k (Array.getElem?_eq_some_iff.1 hk).1).trans hk⟩
theorem row_lt1 {w : World} {g : Nat} {o : Obj} (h : w.heap[g]? = some o) : g < w.heap.size := (Array.getElem?_eq_some_iff.1 h).1
theorem layN_int (x : Ob) : (if x.kind = 6 ∨ x.kind = 7 ∨ x.kind = 8 then (1 : Int) else 0) = (layN x : Int) := by unfold layN; split <;> rfl
set_option maxHeartbeats 16000000 in
theorem pMayC (x : Ob) (S : Nat → Prop) (w : World) (c0 c1 c2 c3 c4 : Value) (hx : ObR w S x c0 c1 c2 c3 c4) (hS : ∀ g, S g → g < w.heap.size) (hok : okO x) (hht : htO x ≤ 100000000) :
    Calls Tryd.prog 15 #[.agg #[c0, c1, c2, c3, c4]] w fun r w' => r = .returned (.bool (mayO x 28)) ∧ Below w.heap.size w w' := by
  obtain ⟨k9, n9, A29, m29, c29, A39, m39, c39, A49, m49, c49, rfl, rfl, rfl, rfl, rfl⟩ := hx.form
  obtain ⟨MB, hMB⟩ : ∃ MB, mayO x 28 = MB := ⟨_, rfl⟩
  rw [hMB]
  refine (callsIn_wide (n := 8)).1 ?_
  refine callsIn_of_wp_marks Tryd.func15 rfl trivial ?_ rfl
  simp only [Tryd.ntmps15, List.size_toArray, List.length_cons, List.length_nil, Nat.reduceAdd, Nat.reduceSub, Array.replicate_succ, Array.replicate_zero, List.push_toArray, List.append_toArray, List.nil_append, List.cons_append]
  gi_wp2_with (refine ⟨trivial, ?_⟩; gi_at_call 20; refine (callsIn_wide.2 (withinC _ _ _ _ _ _ _ _ _ _ _ _)).mono ?_; rintro e w' ⟨rfl, rfl⟩)
  have hb0 : Below w.heap.size w (((w.alloc (.cells #[.int .i64 k9, .int .i64 n9, .slice A29 m29 c29, .slice A39 m39 c39, .slice A49 m49 c49] 26)).alloc (.cells #[.bool false] 4)).alloc (.cells #[.int .i64 k9, .int .i64 n9, .slice A29 m29 c29, .slice A39 m39 c39, .slice A49 m49 c49] 26)) := (((Below.refl _ w).alloc (Nat.le_refl _) _).alloc (by simp) _).alloc (by simp; omega) _
  have hs0 : (((w.alloc (.cells #[.int .i64 k9, .int .i64 n9, .slice A29 m29 c29, .slice A39 m39 c39, .slice A49 m49 c49] 26)).alloc (.cells #[.bool false] 4)).alloc (.cells #[.int .i64 k9, .int .i64 n9, .slice A29 m29 c29, .slice A39 m39 c39, .slice A49 m49 c49] 26)).heap.size = w.heap.size + 3 := by simp
  have hr1 : (((w.alloc (.cells #[.int .i64 k9, .int .i64 n9, .slice A29 m29 c29, .slice A39 m39 c39, .slice A49 m49 c49] 26)).alloc (.cells #[.bool false] 4)).alloc (.cells #[.int .i64 k9, .int .i64 n9, .slice A29 m29 c29, .slice A39 m39 c39, .slice A49 m49 c49] 26)).heap[w.heap.size + 1]? = some (.cells #[.bool false] 4 (0, 0)) := by
    rw [heap_alloc_old (o := _) (h := by simp)]
    exact heap_alloc2_new w _ _
  have hr2 : (((w.alloc (.cells #[.int .i64 k9, .int .i64 n9, .slice A29 m29 c29, .slice A39 m39 c39, .slice A49 m49 c49] 26)).alloc (.cells #[.bool false] 4)).alloc (.cells #[.int .i64 k9, .int .i64 n9, .slice A29 m29 c29, .slice A39 m39 c39, .slice A49 m49 c49] 26)).heap[w.heap.size + 1 + 1]? = some (.cells #[.int .i64 k9, .int .i64 n9, .slice A29 m29 c29, .slice A39 m39 c39, .slice A49 m49 c49] 26 (0, 0)) := by
    have := heap_alloc_new ((w.alloc (.cells #[.int .i64 k9, .int .i64 n9, .slice A29 m29 c29, .slice A39 m39 c39, .slice A49 m49 c49] 26)).alloc (.cells #[.bool false] 4)) (.cells #[.int .i64 k9, .int .i64 n9, .slice A29 m29 c29, .slice A39 m39 c39, .slice A49 m49 c49] 26)
    simpa using this
  obtain ⟨W0, hW0⟩ : ∃ W0, ((w.alloc (.cells #[.int .i64 k9, .int .i64 n9, .slice A29 m29 c29, .slice A39 m39 c39, .slice A49 m49 c49] 26)).alloc (.cells #[.bool false] 4)).alloc (.cells #[.int .i64 k9, .int .i64 n9, .slice A29 m29 c29, .slice A39 m39 c39, .slice A49 m49 c49] 26) = W0 := ⟨_, rfl⟩
  rw [hW0] at hb0 hs0 hr1 hr2 ⊢
  have hx0 : ObR W0 S x (.int .i64 k9) (.int .i64 n9) (.slice A29 m29 c29) (.slice A39 m39 c39) (.slice A49 m49 c49) := ObR.keep (fun g hg => hb0.block g (hS g hg)) (fun _ h => h) _ hx
  obtain ⟨ys, hys⟩ := WkO.ex x 0 _ _ _ _ _ hx0 hok (by omega)
  have hhand := within_hands (8 - 1) (by omega) w.heap.size (w.heap.size + 1 + 1) W0 S x _ _ _ _ _ ys hx0 hok hys hS hb0.size hr2
  have hmay := WkO.may x 0 _ _ ys hys (by omega)
  have hpob : ∀ p, p ∈ ((⟨0, x, .int .i64 k9, .int .i64 n9, .slice A29 m29 c29, .slice A39 m39 c39, .slice A49 m49 c49⟩ : Part) :: ys) → ObR W0 S p.x p.c0 p.c1 p.c2 p.c3 p.c4 ∧ p.a ≤ 100000000 := fun p hp => by
    rcases List.mem_cons.1 hp with rfl | hp
    · exact ⟨hx0, by dsimp only; omega⟩
    · exact ⟨WkO.obs x 0 _ _ ys hys p hp, WkO.small x 0 _ _ ys hys p hp⟩
  have hres : MB = true ↔ ∀ p ∈ ((⟨0, x, .int .i64 k9, .int .i64 n9, .slice A29 m29 c29, .slice A39 m39 c39, .slice A49 m49 c49⟩ : Part) :: ys), PartOk p := by
    have e : (28 : Int) - ((0 : Nat) : Int) = 28 := by simp
    rw [e] at hmay
    rw [← hMB, hmay]
    simp only [List.mem_cons, forall_eq_or_imp]
    unfold PartOk
    rfl
  obtain ⟨XS, hXS⟩ : ∃ XS, ((⟨0, x, .int .i64 k9, .int .i64 n9, .slice A29 m29 c29, .slice A39 m39 c39, .slice A49 m49 c49⟩ : Part) :: ys) = XS := ⟨_, rfl⟩
  rw [hXS] at hhand hpob hres
  have HRES := Lib.hid hres
  have HPO := Lib.hid hpob
  have HB0 := Lib.hid hb0
  have HS0 := Lib.hid hs0
  have HS := Lib.hid hS
  clear hMB hmay hx hx0 hys hres hpob hW0 hr2 hXS hok hht
  have hmem : ∀ (pre : List Part) (p : Part), pre ++ [p] <+: XS → p ∈ XS := fun pre p h => h.subset (by simp)
  have HMEM := Lib.hid hmem
  clear hmem
  refine wp_hands (α := Part) rfl (by omega) (gf := 31) (lb := #[.pointer (some ⟨w.heap.size + 1 + 1, 0, none⟩)]) rfl trivial (enters_of Tryd.func31 (by kernel_rfl) rfl)
    hhand (fun h k => h.trans k) (fun W l o o' => KpW.put hb0.size W l o o') (fun _ => rfl)
    (fun pre W => (∀ p ∈ pre, PartOk p) ∧ Below w.heap.size w W ∧ W.heap[w.heap.size + 1]? = some (.cells #[.bool false] 4 (0, 0)))
    (fun pre W => (∃ p ∈ pre, ¬ PartOk p) ∧ Below w.heap.size w W ∧ W.heap[w.heap.size + 1]? = some (.cells #[.bool false] 4 (0, 0)))
    (fun s A B row hs hg hr => ⟨hs.1, hs.2.1.grown hg hs.2.1.size (fun k e => by have := (hr k e).1; omega), (hg.block _ (row_lt1 hs.2.2) (fun e => by have := (hr _ e.symm).1; omega)).trans hs.2.2⟩)
    (fun s A B row hs hg hr => ⟨hs.1, hs.2.1.grown hg hs.2.1.size (fun k e => by have := (hr k e).1; omega), (hg.block _ (row_lt1 hs.2.2) (fun e => by have := (hr _ e.symm).1; omega)).trans hs.2.2⟩)
    ⟨(fun p hp => by cases hp), hb0, hr1⟩ (fun W W' h => KpW.below h)
    (fun p a' W => ∃ Bp, W.heap[Bp]? = some (.cells #[p.c0, p.c1, p.c2, p.c3, p.c4] 26 (0, 0)) ∧ a' = { tmps := #[.agg #[.int .i64 k9, .int .i64 n9, .slice A29 m29 c29, .slice A39 m39 c39, .slice A49 m49 c49], .pointer (some ⟨w.heap.size, 0, none⟩), .pointer (some ⟨w.heap.size + 1, 0, none⟩), .int .i64 p.a, .pointer (some ⟨Bp, 0, none⟩), .agg #[.int .i64 k9, .int .i64 n9, .slice A29 m29 c29, .slice A39 m39 c39, .slice A49 m49 c49], .func (.func 31) #[] #[.pointer (some ⟨w.heap.size + 1 + 1, 0, none⟩)], .int .i64 p.a, p.val, undef, undef, undef, undef, undef, undef, undef, undef, undef, undef], defers := [] })
    (by
      rintro p a' W l o o' hl ho ⟨Bp, hB, e⟩
      exact ⟨Bp, (World.putObj_heap_other (fun e2 => by subst e2; rw [hl] at hB; injection hB with hB; subst hB; cases ho)).trans hB, e⟩) ?assign ?body ?done ?stop
  case assign =>
    intro l pre p W K hpx hK
    obtain ⟨hob, hpa⟩ := HPO.out p (HMEM.out pre p hpx)
    obtain ⟨pa, px, e0, e1, e2, e3, e4⟩ := p
    obtain ⟨ka, na, F2, r2, t2, F3, r3, t3, F4, r4, t4, z0, z1, z2, z3, z4⟩ := hob.form
    dsimp only at z0 z1 z2 z3 z4
    subst z0 z1 z2 z3 z4
    have HK := Lib.hid hK
    clear hK hob hpa hhand
    dsimp only [Part.val]
    gi_wp2
    exact HK.out _ _ ((Below.refl _ _).alloc (Nat.le_refl _) _) ⟨W.heap.size, heap_alloc_new W _, rfl⟩
  case body =>
    rintro l pre p a' W ⟨hall, hB, hr⟩ ⟨Bp, hBp, rfl⟩ hpx
    obtain ⟨hob, hpa⟩ := HPO.out p (HMEM.out pre p hpx)
    have hobW := fun W' (hW' : Below W.heap.size W W') => ObR.keep (w' := W') (S' := S) (fun g hg => ((hB.trans (hW'.mono hB.size)).block g (HS.out g hg)).trans (HB0.out.block g (HS.out g hg)).symm) (fun _ h => h) _ hob
    have hkd := kind_c0 hob
    obtain ⟨pa, px, e0, e1, e2, e3, e4⟩ := p
    obtain ⟨ka, na, F2, r2, t2, F3, r3, t3, F4, r4, t4, z0, z1, z2, z3, z4⟩ := hob.form
    dsimp only at z0 z1 z2 z3 z4 hobW hBp hpa hkd
    subst z0 z1 z2 z3 z4
    injection hkd with _ hkd
    have hly := layN_int px
    rw [← hkd] at hly
    obtain ⟨L1, hL1⟩ : ∃ L1 : Int, (if ka = 6 ∨ ka = 7 ∨ ka = 8 then (1 : Int) else 0) = L1 := ⟨_, rfl⟩
    rw [hL1] at hly
    have hL2 : 0 ≤ L1 ∧ L1 ≤ 1 := by rw [← hL1]; split <;> omega
    have HLY : Hid (∀ W', Calls Tryd.prog 21 #[.agg #[.int .i64 ka, .int .i64 na, .slice F2 r2 t2, .slice F3 r3 t3, .slice F4 r4 t4]] W' fun e w' => e = .returned (.int .i64 L1) ∧ Below W'.heap.size W' w') := Lib.hid (fun W' => by rw [← hL1]; exact layerC ka _ _ _ _ W')
    obtain ⟨B, hBo⟩ : ∃ B : Bool, B = true ↔ SoundP px := by classical exact ⟨decide (SoundP px), by rw [decide_eq_true_eq]⟩
    have HSO : Hid (∀ W', Below W.heap.size W W' → Calls Tryd.prog 22 #[.agg #[.int .i64 ka, .int .i64 na, .slice F2 r2 t2, .slice F3 r3 t3, .slice F4 r4 t4]] W' fun e w' => e = .returned (.bool B) ∧ Below W'.heap.size W' w') := Lib.hid (fun W' hW' => (soundC px _ _ _ _ _ W' (hobW W' hW') (fun g hg => Nat.lt_of_lt_of_le (HS.out g hg) (hB.trans (hW'.mono hB.size)).size)).mono fun r w' ⟨h1, h2⟩ => ⟨h1.yes B hBo, h2⟩)
    have HCE : Hid (∀ W', Below W.heap.size W W' → W'.cell? ⟨Bp, 0, none⟩ = some (.int .i64 ka) ∧ W'.cell? ⟨Bp, 1, none⟩ = some (.int .i64 na) ∧ W'.cell? ⟨Bp, 2, none⟩ = some (.slice F2 r2 t2) ∧ W'.cell? ⟨Bp, 3, none⟩ = some (.slice F3 r3 t3) ∧ W'.cell? ⟨Bp, 4, none⟩ = some (.slice F4 r4 t4) ∧ W'.cell? ⟨w.heap.size + 1, 0, none⟩ = some (.bool false) ∧ W'.frozen? ⟨w.heap.size + 1, 0, none⟩ = false) := Lib.hid (fun W' hW' => by
      have e1 := (hW'.block Bp (row_lt1 hBp)).trans hBp
      have e2 := (hW'.block _ (row_lt1 hr)).trans hr
      exact ⟨cell_of_row _ _ 0 _ _ (0, 0) e1, cell_of_row _ _ 1 _ _ (0, 0) e1, cell_of_row _ _ 2 _ _ (0, 0) e1, cell_of_row _ _ 3 _ _ (0, 0) e1, cell_of_row _ _ 4 _ _ (0, 0) e1, cell_of_row _ _ 0 _ _ (0, 0) e2, by simp [World.frozen?, e2]⟩)
    have HPT : Hid (PartOk ⟨pa, px, .int .i64 ka, .int .i64 na, .slice F2 r2 t2, .slice F3 r3 t3, .slice F4 r4 t4⟩ ↔ (pa : Int) + L1 ≤ 28 ∧ B = true) := Lib.hid (by
      unfold PartOk
      dsimp only
      rw [← hBo, hly]
      constructor
      · rintro ⟨h1, h2⟩; exact ⟨by omega, h2⟩
      · rintro ⟨h1, h2⟩; exact ⟨by omega, h2⟩)
    have HBF : Hid (∀ W', Below W.heap.size W W' → KeepsOthers W (W'.setCell ⟨w.heap.size + 1, 0, none⟩ (.bool false)) ∧ Below w.heap.size w (W'.setCell ⟨w.heap.size + 1, 0, none⟩ (.bool false)) ∧ (W'.setCell ⟨w.heap.size + 1, 0, none⟩ (.bool false)).heap[w.heap.size + 1]? = some (.cells #[.bool false] 4 (0, 0))) := Lib.hid (fun W' hW' => ⟨(others_below hW').trans (KeepsOthers.setCell _ _ _), (hB.trans (hW'.mono hB.size)).setCell (p := ⟨w.heap.size + 1, 0, none⟩) (by simp) _, heap_set W' (w.heap.size + 1) 0 (.bool false) [.bool false] _ ((hW'.block _ (row_lt1 hr)).trans hr)⟩)
    have HAL := Lib.hid hall
    have HBI := Lib.hid (fun W' (hW' : Below W.heap.size W W') => And.intro (hB.trans (hW'.mono hB.size)) ((hW'.block _ (row_lt1 hr)).trans hr))
    obtain ⟨q0, q1, q2, q3, q4, q5, q6⟩ := HCE.out W (Below.refl _ _)
    clear hob hobW hkd hly hL1 hBo hBp hall hB hr hpx hhand hr1 hb0 hs0
    dsimp only [Part.val]
    by_cases hgt : (pa : Int) + L1 > 28
    · gi_wp2_with (refine ⟨trivial, ?_⟩; gi_at_call 21; refine (CallsIn.inRound l (callsIn_wide.2 (HLY.out _))).mono ?_; (rintro e w4 ⟨rfl, hb4⟩); have HB4 := Lib.hid hb4; clear hb4 q0 q1 q2 q3 q4 q5 q6; (obtain ⟨q0, q1, q2, q3, q4, q5, q6⟩ := HCE.out _ HB4.out))
      refine ⟨trivial, ?_⟩
      gi_wp2
      have hf := HBF.out _ HB4.out
      exact ⟨hf.1, ⟨_, List.mem_append.2 (.inr (List.mem_singleton.2 rfl)), fun h => by have := (HPT.out.1 h).1; omega⟩, hf.2.1, hf.2.2⟩
    · cases B
      · gi_wp2_with (first
          | (refine ⟨trivial, ?_⟩; gi_at_call 21; refine (CallsIn.inRound l (callsIn_wide.2 (HLY.out _))).mono ?_; (rintro e w4 ⟨rfl, hb4⟩); have HB4 := Lib.hid hb4; clear hb4 q0 q1 q2 q3 q4 q5 q6; (obtain ⟨q0, q1, q2, q3, q4, q5, q6⟩ := HCE.out _ HB4.out))
          | (refine ⟨trivial, ?_⟩; gi_at_call 22; refine (CallsIn.inRound l (callsIn_wide.2 (HSO.out _ HB4.out))).mono ?_; (rintro e w5 ⟨rfl, hb5⟩); have HB5 := Lib.hid (HB4.out.trans (hb5.mono HB4.out.size)); clear hb5 q0 q1 q2 q3 q4 q5 q6; (obtain ⟨q0, q1, q2, q3, q4, q5, q6⟩ := HCE.out _ HB5.out)))
        have hf := HBF.out _ HB5.out
        exact ⟨hf.1, ⟨_, List.mem_append.2 (.inr (List.mem_singleton.2 rfl)), fun h => by have := (HPT.out.1 h).2; cases this⟩, hf.2.1, hf.2.2⟩
      · gi_wp2_with (first
          | (refine ⟨trivial, ?_⟩; gi_at_call 21; refine (CallsIn.inRound l (callsIn_wide.2 (HLY.out _))).mono ?_; (rintro e w4 ⟨rfl, hb4⟩); have HB4 := Lib.hid hb4; clear hb4 q0 q1 q2 q3 q4 q5 q6; (obtain ⟨q0, q1, q2, q3, q4, q5, q6⟩ := HCE.out _ HB4.out))
          | (refine ⟨trivial, ?_⟩; gi_at_call 22; refine (CallsIn.inRound l (callsIn_wide.2 (HSO.out _ HB4.out))).mono ?_; (rintro e w5 ⟨rfl, hb5⟩); have HB5 := Lib.hid (HB4.out.trans (hb5.mono HB4.out.size)); clear hb5 q0 q1 q2 q3 q4 q5 q6; (obtain ⟨q0, q1, q2, q3, q4, q5, q6⟩ := HCE.out _ HB5.out)))
        have hi := HBI.out _ HB5.out
        exact ⟨others_below HB5.out, KpW.below HB5.out, fun p hp => by
          rcases List.mem_append.1 hp with hp | hp
          · exact HAL.out p hp
          · rw [List.mem_singleton.1 hp]
            exact HPT.out.2 ⟨by omega, by simp⟩, hi.1, hi.2⟩
  case done =>
    rintro D W hD ⟨hall, hB, hr⟩ hK
    have hc := cell_of_row W _ 0 _ _ (0, 0) hr
    have hf : W.frozen? ⟨w.heap.size + 1, 0, none⟩ = false := by simp [World.frozen?, hr]
    have hm := HRES.out.2 hall
    subst hm
    gi_wp2
    have hK' := (KeepsOthers.setCell W ⟨w.heap.size + 1, 0, none⟩ (.bool true)).same D _ hK rfl
    refine ⟨by simp, .inl ⟨_, _, rfl, run_takeDeferred hK', ?_⟩⟩
    have hc1 := World.cell?_setCell_same' W ⟨w.heap.size + 1, 0, none⟩ (.bool true) (by rw [hc]; rfl)
    have hc5 := cell_kept hc1 (grownBy_putObj' _ D (.deferred none)) (fun r e => by cases e; exact ⟨_, hK', rfl⟩)
    refine ⟨.bool true, ?_, rfl, (hB.setCell (p := ⟨w.heap.size + 1, 0, none⟩) (by simp) _).trans (belowK_b (w := w) (Nat.le_refl _) _ D _ _ (by omega) hK' rfl rfl)⟩
    simp [results, Tryd.f15, go_sem, hc5]
  case stop =>
    rintro D pre W hD hpre ⟨⟨p, hp, hno⟩, hB, hr⟩ hK
    have hc := cell_of_row W _ 0 _ _ (0, 0) hr
    have hm : MB = false := by
      cases MB with
      | false => rfl
      | true => exact absurd (HRES.out.1 rfl p (hpre.subset hp)) hno
    subst hm
    gi_wp2
    refine ⟨by simp, .inl ⟨_, _, rfl, run_takeDeferred hK, ?_⟩⟩
    have hc5 := cell_kept (show W.cell? ⟨w.heap.size + 1, 0, none⟩ = some (.bool false) from hc) (grownBy_putObj' _ D (.deferred none)) (fun r e => by cases e; exact ⟨_, hK, rfl⟩)
    refine ⟨.bool false, ?_, rfl, hB.trans (belowK_b (w := w) (Nat.le_refl _) W D _ _ (by omega) hK rfl rfl)⟩
    simp [results, Tryd.f15, go_sem, hc5]
end
end Go.Proofs.YtliieeagbpmcgaaDoor
