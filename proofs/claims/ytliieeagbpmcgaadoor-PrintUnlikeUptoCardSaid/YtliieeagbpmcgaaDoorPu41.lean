/- Contracts of functions that the law calls, and what they lean on (a part). -/
import Derived.RangeFuncBox
import Derived.Shelf.Abstract
import Derived.BigRegionIn
import Derived.OwnWalkIn
import Derived.TacticsInMore
import Derived.LoopNIn
import Derived.LoopIn
import Derived.Sort.LoopGhostIn
import Derived.Test.YtliieeagbpmcgaaDoorPu39
import Derived.Test.YtliieeagbpmcgaaDoorPu40
namespace Go.Proofs.YtliieeagbpmcgaaDoor
section
open Go.RowKit Go.BigFrame Go.Sort
set_option linter.unusedVariables false
set_option maxRecDepth 100000
attribute [local go_sem] Oper.semAt_some
theorem withinC (k n : Int) (A2 A3 A4 : Option Addr) (m2 c2 m3 c3 m4 c4 : Nat) (w : World) : Calls Tryd.prog 20 #[.agg #[.int .i64 k, .int .i64 n, .slice A2 m2 c2, .slice A3 m3 c3, .slice A4 m4 c4]] w fun e w' => e = .returned (.func (.func 31) #[] #[.pointer (some ⟨w.heap.size, 0, none⟩)]) ∧ w' = w.alloc (.cells #[.int .i64 k, .int .i64 n, .slice A2 m2 c2, .slice A3 m3 c3, .slice A4 m4 c4] 26) := by
  go_enter Tryd.func20, Tryd.ntmps20
  go_wp2
  go_ret
  exact ⟨rfl, rfl⟩
/-- An append whose outcome is known. -/
theorem wpIn_append_run14 {F : Fence} {n : Nat} {P : Program} {ops : Array Oper} {rest : List Oper} {o : Oper} {a : Act} {Q : Exit → Act → World → Prop} {w w' : World} (hg : o.guard = none) (s x : Operand) (t : TypeId) (hop : o.op = Op.call { callee := Callee.builtin Builtin.append, args := #[s, x], argTypes := #[t, t] })
    (vs vx v : Value) (hs : a.eval s = vs) (hx : a.eval x = vx) (hrun : (Builtin.append_ #[t, t] o.type #[vs, vx]).run P w = .ok v w') (hK : wpListIn F n P ops Q rest (a.put o.dst v) w') : wpListIn F n P ops Q (o :: rest) a w := by
  refine wpListIn_plain hg fun K hK' => ?_
  unfold Oper.wpIn
  refine ⟨by simp [Oper.about, hop, resolve, Target.leads, Sem.run_pure], ?_⟩
  rw [Oper.semAt_plain F _ _ (by rw [hop]; intro c hc'; cases hc')]
  simp [execOp, hop, resolve, invoke, builtin, hs, hx, hrun, Result.andThen]
  exact hK' _ _ hK
/-- What a round that goes on keeps: what lay below n₀, every object and every place. -/
structure KpW (n₀ : Nat) (W W' : World) : Prop where
  size : W.heap.size ≤ W'.heap.size
  low : ∀ g : Nat, g < W.heap.size → g < n₀ → W'.heap[g]? = W.heap[g]?
  obj : ∀ (g : Nat) (cur : Array Value) (fr : Nat × Nat), W.heap[g]? = some (Obj.cells cur 26 fr) → W'.heap[g]? = W.heap[g]?
  plc : ∀ (g : Nat) (cur : Array Value) (fr : Nat × Nat), W.heap[g]? = some (Obj.cells cur 60 fr) → W'.heap[g]? = W.heap[g]?
theorem KpW.trans {n₀ : Nat} {A B C : World} (h : KpW n₀ A B) (k : KpW n₀ B C) : KpW n₀ A C :=
  ⟨Nat.le_trans h.size k.size, fun g hg hn => (k.low g (Nat.lt_of_lt_of_le hg h.size) hn).trans (h.low g hg hn), fun g cur fr hg => (k.obj g cur fr ((h.obj g cur fr hg).trans hg)).trans (h.obj g cur fr hg), fun g cur fr hg => (k.plc g cur fr ((h.plc g cur fr hg).trans hg)).trans (h.plc g cur fr hg)⟩
theorem KpW.below {n₀ : Nat} {W W' : World} (h : Below W.heap.size W W') : KpW n₀ W W' :=
  ⟨h.size, fun g hg _ => h.block g hg, fun g cur fr hg => h.block g (Array.getElem?_eq_some_iff.1 hg).1, fun g cur fr hg => h.block g (Array.getElem?_eq_some_iff.1 hg).1⟩
theorem KpW.put {n₀ : Nat} {w : World} (hn : n₀ ≤ w.heap.size) (W : World) (l : Nat) (o o' : Obj) (hl : w.heap.size ≤ l) (h : W.heap[l]? = some o) (hc : o.isCells = false) : KpW n₀ W (W.putObj l o') := by
  have ne : ∀ g cur T fr, W.heap[g]? = some (.cells cur T fr) → g ≠ l := fun g cur T fr hg e => by
    subst e
    rw [h] at hg
    injection hg with hg
    subst hg
    cases hc
  exact ⟨by rw [show (W.putObj l o').heap.size = W.heap.size from by simp [World.putObj]]; exact Nat.le_refl _, fun g hg hn' => World.putObj_heap_other (by omega), fun g cur fr hg => World.putObj_heap_other (ne g cur _ fr hg), fun g cur fr hg => World.putObj_heap_other (ne g cur _ fr hg)⟩
/-- What the iterator needs of a world. -/
structure ItW (w : World) (S : Nat → Prop) (Bo : Nat) (cs : Array Value) (B : Nat) (v : Value) (st : List Fr) (wr : World) : Prop where
  old : ∀ g, S g → wr.heap[g]? = w.heap[g]?
  box : wr.heap[Bo]? = some (.cells cs 26 (0, 0))
  base : B ≤ wr.heap.size
  stk : PlS wr B v st
theorem ItW.keep {w : World} {S : Nat → Prop} {Bo B : Nat} {cs : Array Value} {v : Value} {st : List Fr} {wr W : World} {n₀ : Nat} (h : ItW w S Bo cs B v st wr) (hS : ∀ g, S g → g < n₀) (hw : n₀ ≤ B) (hk : KpW n₀ wr W) : ItW w S Bo cs B v st W :=
  ⟨fun g hg => (hk.low g (by have := hS g hg; have := h.base; omega) (hS g hg)).trans (h.old g hg), (hk.obj Bo _ _ h.box).trans h.box, Nat.le_trans h.base hk.size, h.stk.same fun b hb => by
    obtain ⟨cur, hc⟩ := h.stk.tag b hb
    exact hk.plc b _ _ hc⟩
theorem ItW.next {w : World} {S : Nat → Prop} {Bo B g c : Nat} {cs : Array Value} {f : Fr} {fs : List Fr} {wr w5 : World} {n₀ : Nat} (h : ItW w S Bo cs B (.slice (some ⟨g, 0, none⟩) (fs.length + 1) c) (f :: fs) wr) (hS : ∀ g, S g → g < n₀) (hw : n₀ ≤ B) (hk : NxK wr g (fs.length * 6) f.i w5) :
    ItW w S Bo cs B (.slice (some ⟨g, 0, none⟩) (fs.length + 1) c) ({ f with i := f.i + 1 } :: fs) w5 := by
  obtain ⟨g', c', hv, hbg, hgw, hpop, hcap, ht, hstep⟩ := h.stk.top
  injection hv with e1 e2 e3
  injection e1 with e1
  injection e1 with e1
  subst e1 e3
  obtain ⟨cur, htag⟩ := h.stk.tag g rfl
  have hne : Bo ≠ g := fun e => by
    have := h.box
    rw [e, htag] at this
    injection this with this
    injection this with _ h2 _
    cases h2
  refine ⟨fun a ha => ?_, ?_, Nat.le_trans h.base hk.size, hstep w5 (hk.block g hgw)⟩
  · have h1 := hS a ha
    have h2 := h.base
    exact (hk.grown.block a (by omega) (fun e => by injection e with e; omega)).trans (h.old a ha)
  · exact (hk.grown.block Bo (row_lt _ _ _ h.box) (fun e => by injection e with e; exact hne e)).trans h.box
theorem ItW.pop {w : World} {S : Nat → Prop} {Bo B g c : Nat} {cs : Array Value} {f : Fr} {fs : List Fr} {wr : World} (h : ItW w S Bo cs B (.slice (some ⟨g, 0, none⟩) (fs.length + 1) c) (f :: fs) wr) : ItW w S Bo cs B (.slice (some ⟨g, 0, none⟩) fs.length c) fs wr := by
  obtain ⟨g', c', hv, hbg, hgw, hpop, hcap, ht, hstep⟩ := h.stk.top
  injection hv with e1 e2 e3
  injection e1 with e1
  injection e1 with e1
  subst e1 e3
  exact ⟨h.old, h.box, h.base, hpop⟩
theorem ItW.on {w : World} {S : Nat → Prop} {Bo B : Nat} {cs : Array Value} {v : Value} {st : List Fr} {wr W : World} {n₀ : Nat} (h : ItW w S Bo cs B v st wr) (hS : ∀ g, S g → g < n₀) (hw : n₀ ≤ B) (hb : Below wr.heap.size wr W) : ItW w S Bo cs B v st W := h.keep (n₀ := n₀) hS hw (KpW.below hb)
/-- One more place. -/
theorem ItW.push {w : World} {S : Nat → Prop} {Bo B g m c : Nat} {cs : Array Value} {st : List Fr} {wr : World} {n₀ : Nat} (h : ItW w S Bo cs B (.slice (some ⟨g, 0, none⟩) m c) st wr) (hS : ∀ g, S g → g < n₀) (hw : n₀ ≤ B) (f : Fr) (hi : f.i = 0) (ho : f.d0.oneCell' = true ∧ f.d1.oneCell' = true ∧ f.d2.oneCell' = true ∧ f.d3.oneCell' = true ∧ f.d4.oneCell' = true) (hl : st.length ≤ 100000000) :
    ∃ A c' w'', (Builtin.append_ #[61, 61] 61 #[.slice (some ⟨g, 0, none⟩) m c, .slice (some ⟨wr.heap.size, 0, none⟩) 1 1]).run Tryd.prog (wr.alloc (.cells #[f.d0, f.d1, f.d2, f.d3, f.d4, .int .i64 0] 60)) = .ok (.slice A (st.length + 1) c') w'' ∧ ItW w S Bo cs B (.slice A (st.length + 1) c') (f :: st) w'' ∧ wr.grownBy w'' (some g) ∧ B ≤ g := by
  obtain ⟨A, c', w'', hrun, hp, hgr⟩ := h.stk.push f hi ho hl h.base
  have hgr : wr.grownBy w'' (some g) := hgr
  have hbg := (h.stk.lt g rfl).2
  obtain ⟨cur, htag⟩ := h.stk.tag g rfl
  have hne : Bo ≠ g := fun e => by
    have := h.box
    rw [e, htag] at this
    injection this with this
    injection this with _ h2 _
    cases h2
  refine ⟨A, c', w'', hrun, ⟨fun a ha => ?_, ?_, Nat.le_trans h.base hgr.size, hp⟩, hgr, hbg⟩
  · have h1 := hS a ha
    have h2 := h.base
    exact (hgr.block a (by omega) (fun e => by injection e with e; omega)).trans (h.old a ha)
  · exact (hgr.block Bo (row_lt _ _ _ h.box) (fun e => by injection e with e; exact hne e)).trans h.box
theorem below_grown {w w' : World} (h : Below w.heap.size w w') : w.grownBy w' none := ⟨h.os, h.tape, h.output, h.size, fun k hk _ => h.block k hk⟩
theorem rest_cons (f : Fr) (fs : List Fr) : Rest (f :: fs) = f.ys ++ Rest fs := by simp [Rest]
set_option maxHeartbeats 16000000 in
theorem within_hands (n : Nat) (hn : 1 ≤ n) (n₀ Bo : Nat) (w : World) (S : Nat → Prop) (x : Ob) (c0 c1 c2 c3 c4 : Value) (ys : List Part) (hx : ObR w S x c0 c1 c2 c3 c4) (hok : okO x) (hy : WkO w S 0 x c3 c4 ys) (hS : ∀ g, S g → g < n₀) (hn₀ : n₀ ≤ w.heap.size)
    (hBo : w.heap[Bo]? = some (.cells #[c0, c1, c2, c3, c4] 26 (0, 0))) :
    Hands Fence.wide n Tryd.prog 31 #[.pointer (some ⟨Bo, 0, none⟩)] (fun p : Part => #[.int .i64 p.a, p.val]) (KpW n₀) (⟨0, x, c0, c1, c2, c3, c4⟩ :: ys) w := by
  intro l J Jx W hbW hJ hJx hY h0
  obtain ⟨k, n1, B2, p2, g2, B3, p3, g3, B4, p4, g4, hfr, hused⟩ := used_fr hx hok hy
  obtain ⟨k9, n9, A29, m29, c29, A39, m39, c39, A49, m49, c49, rfl, rfl, rfl, rfl, rfl⟩ := hx.form
  have hboxW := (hbW.block Bo (row_lt _ _ _ hBo)).trans hBo
  obtain ⟨q0, q1, q2, q3, q4, -⟩ := row5_cells hboxW
  have hY1 := hY [] ⟨0, x, .int .i64 k9, .int .i64 n9, .slice A29 m29 c29, .slice A39 m39 c39, .slice A49 m49 c49⟩ W (by simp) h0
  simp only [List.nil_append] at hY1
  obtain ⟨XS, hXS⟩ : ∃ XS, (⟨0, x, .int .i64 k9, .int .i64 n9, .slice A29 m29 c29, .slice A39 m39 c39, .slice A49 m49 c49⟩ :: ys : List Part) = XS := ⟨_, rfl⟩
  rw [hXS] at hY ⊢
  have HXS := Lib.hid hXS
  have HYA := Lib.hid hY
  have HJ := Lib.hid hJ
  have HJX := Lib.hid hJx
  have HU := Lib.hid hused
  have HFR := Lib.hid hfr
  have HS := Lib.hid hS
  have HBW := Lib.hid hbW
  have HBX := Lib.hid hboxW
  have HN0 := Lib.hid hn₀
  have HOB := Lib.hid (fun p hp => WkO.obs x 0 _ _ ys hy p hp)
  clear hY hJ hJx hused hfr hS hbW hboxW hBo hx hok hy hn₀ h0 hXS
  obtain ⟨fn, tmps, assign, body, hy1, hR1⟩ := hY1
  simp only [Part.val, Int.cast_ofNat_Int] at hy1
  have HR1 := Lib.hid hR1
  clear hR1
  refine callsIn_of_wp Tryd.func31 rfl trivial ?_ rfl
  simp only [Tryd.ntmps31, List.size_toArray, List.length_cons, List.length_nil, Nat.reduceAdd, Nat.reduceSub, Array.replicate_succ, Array.replicate_zero, List.push_toArray, List.append_toArray, List.nil_append, List.cons_append]
  gi_wp2
  refine HR1.out.mono ?_
  rintro e W3 (⟨rfl, hJ3, hk3⟩ | ⟨rfl, hJx3⟩)
  rotate_left
  · gi_wp2
    refine bodyPost_ret (results_none rfl _ _ _) rfl ?_
    exact ⟨⟨_, rfl⟩, .inr ⟨_, ⟨ys, by rw [← HXS.out]; rfl⟩, hJx3⟩⟩
  have hbox3 := (hk3.obj Bo _ _ HBX.out).trans HBX.out
  have HJ3 := Lib.hid hJ3
  have HK3 := Lib.hid hk3
  have HB3 := Lib.hid hbox3
  clear hJ3 hk3 q0 q1 q2 q3 q4 hy1 HR1
  obtain ⟨q0, q1, q2, q3, q4, -⟩ := row5_cells hbox3
  clear hbox3
  gi_wp2_with (refine ⟨trivial, ?_⟩; gi_at_call 32; refine (callsIn_wide.2 (HU.out _)).mono ?_; (rintro e w4 ⟨rfl, hb4⟩); have HB4 := Lib.hid hb4; clear hb4)
  have hit : ItW w S Bo #[.int .i64 k9, .int .i64 n9, .slice A29 m29 c29, .slice A39 m39 c39, .slice A49 m49 c49] W.heap.size (.slice (some ⟨w4.heap.size, 0, none⟩) 1 1) [⟨.int .i64 k, .int .i64 n1, .slice B2 p2 g2, .slice B3 p3 g3, .slice B4 p4 g4, 0, ys⟩] (w4.alloc (.cells #[.int .i64 k, .int .i64 n1, .slice B2 p2 g2, .slice B3 p3 g3, .slice B4 p4 g4, .int .i64 0] 60)) := by
    have hb5 : Below W3.heap.size W3 (w4.alloc (.cells #[.int .i64 k, .int .i64 n1, .slice B2 p2 g2, .slice B3 p3 g3, .slice B4 p4 g4, .int .i64 0] 60)) := HB4.out.alloc HB4.out.size _
    have hWs := HK3.out.size
    have hs4 := HB4.out.size
    refine ⟨fun g hg => ?_, (hb5.block Bo (row_lt _ _ _ HB3.out)).trans HB3.out, Nat.le_trans hWs hb5.size, PlS.start ⟨.int .i64 k, .int .i64 n1, .slice B2 p2 g2, .slice B3 p3 g3, .slice B4 p4 g4, 0, ys⟩ rfl (Nat.le_trans hWs hs4)⟩
    have h1 := HS.out g hg
    have h2 := HN0.out
    have h3 := HBW.out.size
    exact (hb5.block g (by omega)).trans ((HK3.out.low g (by omega) h1).trans (HBW.out.block g (by omega)))
  have HIT := Lib.hid hit
  have HJ5 : Hid (J [⟨0, x, .int .i64 k9, .int .i64 n9, .slice A29 m29 c29, .slice A39 m39 c39, .slice A49 m49 c49⟩] (w4.alloc (.cells #[.int .i64 k, .int .i64 n1, .slice B2 p2 g2, .slice B3 p3 g3, .slice B4 p4 g4, .int .i64 0] 60))) := Lib.hid (HJ.out _ _ _ none HJ3.out (by
    have hb5 : Below W3.heap.size W3 (w4.alloc (.cells #[.int .i64 k, .int .i64 n1, .slice B2 p2 g2, .slice B3 p3 g3, .slice B4 p4 g4, .int .i64 0] 60)) := HB4.out.alloc HB4.out.size _
    exact ⟨hb5.os, hb5.tape, hb5.output, hb5.size, fun k hk _ => hb5.block k hk⟩) (fun r e => by cases e))
  have HFS : Hid (FrsR w S [⟨.int .i64 k, .int .i64 n1, .slice B2 p2 g2, .slice B3 p3 g3, .slice B4 p4 g4, 0, ys⟩]) := Lib.hid ⟨HFR.out, trivial⟩
  clear hit q0 q1 q2 q3 q4 HJ3 HK3 HB3 HB4 HFR HBX
  gi_loopg [3] (2 * ys.length + 1) (fun gk v wr => ∃ (pre : List Part) (st : List Fr), XS = pre ++ Rest st ∧ 2 * (Rest st).length + st.length ≤ gk ∧ Hid (ItW w S Bo #[.int .i64 k9, .int .i64 n9, .slice A29 m29 c29, .slice A39 m39 c39, .slice A49 m49 c49] W.heap.size v st wr) ∧ Hid (FrsR w S st) ∧ Hid (J pre wr))
  case atStart => exact ⟨_, _, by rw [← HXS.out]; simp [Rest], by simp [Rest], HIT, HFS, HJ5⟩
  case round =>
    clear HIT HJ5 HFS
    obtain ⟨pre, st, hxs, hgk, HIT, HFS, HJP⟩ := hrel
    have HX := Lib.hid hxs
    have HG := Lib.hid hgk
    clear hxs hgk
    cases st with
    | nil =>
      obtain ⟨A, c, hv⟩ := HIT.out.stk.shape
      subst hv
      have hl0 : ([] : List Fr).length = 0 := rfl
      rw [hl0]
      gi_wp2
      go_end0
      exact ⟨⟨_, rfl⟩, .inl (by rw [HX.out]; simp only [Rest, List.flatMap_nil, List.append_nil]; exact HJP.out)⟩
    | cons f fs =>
      obtain ⟨g, c, hv, hbg, hgw, hpop, hcap, ht, hstep⟩ := HIT.out.stk.top
      obtain ⟨cur, htag⟩ := HIT.out.stk.tag g (by rw [hv]; rfl)
      have hfz : ∀ j, wr.frozen? ⟨g, j, none⟩ = false := fun j => by simp [World.frozen?, htag]
      obtain ⟨hfr, hfs⟩ := HFS.out
      subst hv
      have hnx := fr_next hfr (fun g hg => Nat.lt_of_lt_of_le (HS.out g hg) HN0.out)
      have hBn : n₀ ≤ W.heap.size := Nat.le_trans HN0.out HBW.out.size
      have hSB : ∀ a, S a → a ≠ g ∧ a < wr.heap.size := fun a ha => by have h1 := HS.out a ha; have h2 := HIT.out.base; exact ⟨by omega, by omega⟩
      obtain ⟨M, hM⟩ : ∃ M, fs.length = M := ⟨_, rfl⟩
      have HIN : Hid (∀ w5, NxK wr g (M * 6) f.i w5 → ItW w S Bo #[.int .i64 k9, .int .i64 n9, .slice A29 m29 c29, .slice A39 m39 c39, .slice A49 m49 c49] W.heap.size (.slice (some ⟨g, 0, none⟩) (M + 1) c) ({ f with i := f.i + 1 } :: fs) w5) := Lib.hid (fun w5 hk => by have h := HIT.out.next HS.out hBn (by rw [hM]; exact hk); rw [hM] at h; exact h)
      rw [hM] at hcap hnx ht ⊢
      have HM := Lib.hid hM
      have HFF := Lib.hid hfs
      have HGW := Lib.hid (And.intro hbg hgw)
      have HTG : Hid (Tagged wr g) := Lib.hid ⟨_, htag, .inr ⟨_, _, rfl⟩⟩
      have HBN := Lib.hid hBn
      have hMc : M + 1 ≤ c := hcap.1
      have hMx : c ≤ 9223372036854775807 := hcap.2
      rcases hnx with ⟨hys, hnx⟩ | ⟨p, y1, y2, hys, hpa, hpo, hpk, hpw, hfr2, hnx⟩
      · -- nothing is left here
        have HNX := Lib.hid (hnx wr g (M * 6) hgw ht.2.2.2.1 ht.2.2.2.2.1 ht.2.2.2.2.2 hfz)
        have HYS := Lib.hid hys
        clear hpop hcap hstep hfs hM htag hfz ht hfr hnx hSB hBn hys hbg hgw
        gi_wp2_with (refine ⟨trivial, ?_⟩; gi_at_call 33; refine (callsIn_wide.2 HNX.out).mono ?_; (rintro e w5 ⟨rfl, hk5⟩); have HK5 := Lib.hid hk5; clear hk5)
        have hb6 := (Below.refl w5.heap.size w5).alloc (Nat.le_refl _) (.cells #[.int .i64 0, .int .i64 0, .slice none 0 0, .slice none 0 0, .slice none 0 0] 26)
        have HI6 := Lib.hid ((HIN.out w5 HK5.out).on HS.out HBN.out hb6)
        have HJ6 := Lib.hid (HJ.out _ _ _ none (HJ.out _ _ _ (some g) HJP.out HK5.out.grown (fun r e => by injection e with e; rw [← e]; exact ⟨HGW.out.1, HTG.out⟩)) (below_grown hb6) (fun r e => by cases e))
        clear hb6
        gi_roundg (2 * (Rest fs).length + M)
        case measure =>
          have h1 := HG.out
          have h2 := HM.out
          rw [rest_cons, HYS.out, List.nil_append, List.length_cons] at h1
          omega
        case rel => exact ⟨pre, fs, by rw [HX.out, rest_cons, HYS.out, List.nil_append], by rw [HM.out]; exact Nat.le_refl _, Lib.hid (by have h := HI6.out; rw [← HM.out] at h ⊢; exact h.pop), HFF, HJ6⟩
      · -- the next part
        have hpx : pre ++ [p] <+: XS := ⟨y1 ++ (y2 ++ Rest fs), by rw [HX.out, rest_cons, hys]; simp⟩
        have HPX := Lib.hid hpx
        have HYS := Lib.hid hys
        have HPK := Lib.hid hpk
        have HF2 := Lib.hid hfr2
        obtain ⟨k7, n7, E2, p7, s7, E3, p8, s8, E4, p9, s9, hfn, hused7⟩ := used_fr hpo hpk.1 hpw
        have HFN := Lib.hid hfn
        have HU7 := Lib.hid hused7
        obtain ⟨ka, na, F2, r2, t2, F3, r3, t3, F4, r4, t4, z0, z1, z2, z3, z4⟩ := hpo.form
        have HPA := Lib.hid hpa
        have HY6 : Hid (∀ w5, NxK wr g (M * 6) f.i w5 → YieldAt Fence.wide (n - 1) Tryd.prog l #[.int .i64 ((M : Int) + 1), .agg #[.int .i64 ka, .int .i64 na, .slice F2 r2 t2, .slice F3 r3 t3, .slice F4 r4 t4]] (w5.alloc (.cells #[.int .i64 ka, .int .i64 na, .slice F2 r2 t2, .slice F3 r3 t3, .slice F4 r4 t4] 26)) fun e W' =>
            (e = .returned (.bool true) ∧ J (pre ++ [p]) W' ∧ KpW n₀ (w5.alloc (.cells #[.int .i64 ka, .int .i64 na, .slice F2 r2 t2, .slice F3 r3 t3, .slice F4 r4 t4] 26)) W') ∨ (e = .returned (.bool false) ∧ Jx (pre ++ [p]) W')) := Lib.hid (fun w5 hk => by
          have hb6 := (Below.refl w5.heap.size w5).alloc (Nat.le_refl _) (.cells #[.int .i64 ka, .int .i64 na, .slice F2 r2 t2, .slice F3 r3 t3, .slice F4 r4 t4] 26)
          have hj6 := HJ.out _ _ _ none (HJ.out _ _ _ (some g) HJP.out hk.grown (fun r e => by injection e with e; rw [← e]; exact ⟨HGW.out.1, HTG.out⟩)) (below_grown hb6) (fun r e => by cases e)
          have h := HYA.out pre p _ HPX.out hj6
          have e1 : (#[.int .i64 (p.a : Int), p.val] : Array Value) = #[.int .i64 ((M : Int) + 1), .agg #[.int .i64 ka, .int .i64 na, .slice F2 r2 t2, .slice F3 r3 t3, .slice F4 r4 t4]] := by
            rw [hpa]
            unfold Part.val
            rw [z0, z1, z2, z3, z4]
            simp
          rw [e1] at h
          exact h)
        have hnx2 := hnx wr g (M * 6) HIT.out.old hSB hgw ht.2.2.2.1 ht.2.2.2.2.1 ht.2.2.2.2.2 hfz
        rw [z0, z1, z2, z3, z4] at hnx2 HU7
        have HNX := Lib.hid hnx2
        clear hpop hcap hstep hfs hM htag hfz ht hfr hnx hnx2 hSB hBn hys hbg hgw hpx hpk hfr2 hfn hused7 hpa hpo hpw z0 z1 z2 z3 z4
        gi_wp2_with (refine ⟨trivial, ?_⟩; gi_at_call 33; refine (callsIn_wide.2 HNX.out).mono ?_; (rintro e w5 ⟨rfl, hk5⟩); have HK5 := Lib.hid hk5; obtain ⟨fn2, tmps2, assign2, body2, hy2, hR2⟩ := HY6.out w5 hk5; have HR2 := Lib.hid hR2; clear hk5 hR2)
        refine HR2.out.mono ?_
        rintro e W7 (⟨rfl, hJ7, hk7⟩ | ⟨rfl, hJx7⟩)
        rotate_left
        · gi_wp2
          refine bodyPost_ret (results_none rfl _ _ _) rfl ?_
          exact ⟨⟨_, rfl⟩, .inr ⟨_, HPX.out, hJx7⟩⟩
        have hb6 := (Below.refl w5.heap.size w5).alloc (Nat.le_refl _) (.cells #[.int .i64 ka, .int .i64 na, .slice F2 r2 t2, .slice F3 r3 t3, .slice F4 r4 t4] 26)
        have HI7 := Lib.hid (((HIN.out w5 HK5.out).on HS.out HBN.out hb6).keep HS.out HBN.out hk7)
        have hrow7 := (hk7.obj w5.heap.size _ _ (heap_alloc_new w5 (.cells #[.int .i64 ka, .int .i64 na, .slice F2 r2 t2, .slice F3 r3 t3, .slice F4 r4 t4] 26))).trans (heap_alloc_new w5 (.cells #[.int .i64 ka, .int .i64 na, .slice F2 r2 t2, .slice F3 r3 t3, .slice F4 r4 t4] 26))
        have HJ7 := Lib.hid hJ7
        have HR7 := Lib.hid hrow7
        clear hb6 hJ7 hk7 hy2 HR2 HY6 HNX
        obtain ⟨q0, q1, q2, q3, q4, -⟩ := row5_cells hrow7
        clear hrow7
        have HPU : Hid (∀ w8, Below W7.heap.size W7 w8 → ∃ A c' w'', (Builtin.append_ #[61, 61] 61 #[.slice (some ⟨g, 0, none⟩) (M + 1) c, .slice (some ⟨w8.heap.size, 0, none⟩) 1 1]).run Tryd.prog (w8.alloc (.cells #[.int .i64 k7, .int .i64 n7, .slice E2 p7 s7, .slice E3 p8 s8, .slice E4 p9 s9, .int .i64 0] 60)) = .ok (.slice A (M + 1 + 1) c') w'' ∧ ItW w S Bo #[.int .i64 k9, .int .i64 n9, .slice A29 m29 c29, .slice A39 m39 c39, .slice A49 m49 c49] W.heap.size (.slice A (M + 1 + 1) c') (⟨.int .i64 k7, .int .i64 n7, .slice E2 p7 s7, .slice E3 p8 s8, .slice E4 p9 s9, 0, y1⟩ :: { f with i := f.i + 1, ys := y2 } :: fs) w'' ∧ J (pre ++ [p]) w'') := Lib.hid (fun w8 h8 => by
          have hpk := HPK.out.2
          have hht : 1 ≤ htO p.x := by obtain ⟨a, x, _⟩ := p; obtain ⟨k, n, b, l, d⟩ := x; simp only [htO]; omega
          have hI8 : ItW w S Bo #[.int .i64 k9, .int .i64 n9, .slice A29 m29 c29, .slice A39 m39 c39, .slice A49 m49 c49] W.heap.size (.slice (some ⟨g, 0, none⟩) (M + 1) c) ({ f with i := f.i + 1, ys := y2 } :: fs) w8 := by
            have h := HI7.out.on HS.out HBN.out h8
            exact ⟨h.old, h.box, h.base, h.stk⟩
          obtain ⟨A, c', w'', hrun, hI, hgr, hBg⟩ := hI8.push HS.out HBN.out ⟨.int .i64 k7, .int .i64 n7, .slice E2 p7 s7, .slice E3 p8 s8, .slice E4 p9 s9, 0, y1⟩ rfl ⟨rfl, rfl, rfl, rfl, rfl⟩ (by rw [List.length_cons, HM.out]; omega)
          rw [List.length_cons, HM.out] at hrun hI
          exact ⟨A, c', w'', hrun, hI, HJ.out _ _ _ (some g) (HJ.out _ _ _ none HJ7.out (below_grown h8) (fun r e => by cases e)) hgr (fun r e => by injection e with e; subst e; exact ⟨hBg, by obtain ⟨cur, ht⟩ := hI8.stk.tag g rfl; exact ⟨_, ht, .inr ⟨_, _, rfl⟩⟩⟩)⟩)
        gi_wp2_with (first
          | (refine ⟨trivial, ?_⟩; gi_at_call 32; refine (callsIn_wide.2 (HU7.out _)).mono ?_; (rintro e w8 ⟨rfl, hb8⟩); obtain ⟨A9, c9, w9, hrun, hI9, hJ9⟩ := HPU.out w8 hb8; have HI9 := Lib.hid hI9; have HJ9 := Lib.hid hJ9; have HRUN := Lib.hid hrun; clear hb8 hI9 hJ9 hrun)
          | (gi_at_builtin; refine wpIn_append_run14 rfl (.tmp 39) (.tmp 43) 61 rfl _ _ _ rfl rfl HRUN.out ?_))
        gi_roundg (2 * (Rest (⟨.int .i64 k7, .int .i64 n7, .slice E2 p7 s7, .slice E3 p8 s8, .slice E4 p9 s9, 0, y1⟩ :: { f with i := f.i + 1, ys := y2 } :: fs)).length + (M + 1 + 1))
        case measure =>
          have h1 := HG.out
          have h2 := HM.out
          rw [rest_cons, HYS.out, List.length_cons] at h1
          rw [rest_cons, rest_cons]
          simp only [List.length_append, List.length_cons] at h1 ⊢
          omega
        case rel => exact ⟨pre ++ [p], ⟨.int .i64 k7, .int .i64 n7, .slice E2 p7 s7, .slice E3 p8 s8, .slice E4 p9 s9, 0, y1⟩ :: { f with i := f.i + 1, ys := y2 } :: fs, by rw [HX.out, rest_cons, HYS.out, rest_cons, rest_cons]; simp, by simp only [List.length_cons]; rw [HM.out]; exact Nat.le_refl _, HI9, Lib.hid ⟨by have h := HFN.out; rw [List.length_cons, HM.out]; exact h, by have h := HF2.out; rw [HM.out]; exact h, HFF.out⟩, HJ9⟩
end
end Go.Proofs.YtliieeagbpmcgaaDoor
