/- Contracts of functions that the law calls, and what they lean on (a part). -/
import Derived.RangeFuncBox
import Derived.Shelf.Abstract
import Derived.BigRegionIn
import Derived.OwnWalkIn
import Derived.TacticsInMore
import Derived.LoopNIn
import Derived.LoopIn
import Derived.Sort.LoopGhostIn
import Derived.Test.YtliieeagbpmcgaaGreatDoorPv36
import Derived.Test.YtliieeagbpmcgaaGreatDoorPv37
namespace Go.Proofs.YtliieeagbpmcgaaGreatDoor
section
open Go.RowKit Go.BigFrame Go.Sort
set_option linter.unusedVariables false
set_option maxRecDepth 100000
attribute [local go_sem] Oper.semAt_some
theorem withinC (k n : Int) (A2 A3 A4 : Option Addr) (m2 c2 m3 c3 m4 c4 : Nat) (w : World) : Calls Tryz.prog 86 #[.agg #[.int .i64 k, .int .i64 n, .slice A2 m2 c2, .slice A3 m3 c3, .slice A4 m4 c4]] w fun e w' => e = .returned (.func (.func 126) #[] #[.pointer (some ⟨w.heap.size, 0, none⟩)]) ∧ w' = w.alloc (.cells #[.int .i64 k, .int .i64 n, .slice A2 m2 c2, .slice A3 m3 c3, .slice A4 m4 c4] 30) := by
  go_enter Tryz.func86, Tryz.ntmps86
  go_wp2
  go_ret
  exact ⟨rfl, rfl⟩
/-- An append whose outcome is known. -/
theorem wpIn_append_run14 {F : Fence} {n : Nat} {P : Program} {ops : Array Oper} {rest : List Oper} {o : Oper} {a : Act} {Q : Exit → Act → World → Prop} {w w' : World} (hg : o.guard = none) (s x : Operand) (t : TypeId) (hop : o.op = Op.call { callee := Callee.builtin Builtin.append, args := #[s, x], argTypes := #[t, t] })
    (vs vx v : Value) (hs : a.eval s = vs) (hx : a.eval x = vx) (hrun : (Builtin.append_ #[t, t] o.type #[vs, vx]).run P w = .ok v w') (hK : wpListIn F n P ops Q rest (a.put o.dst v) w') : wpListIn F n P ops Q (o :: rest) a w := by
  refine wpListIn_plain hg fun K hK' => ?_
  unfold Oper.wpIn
  refine ⟨by simp [Oper.about, hop, resolve, Target.leads, Sem.run_pure], ?_⟩
  rw [Oper.semAt_plain F _ _ (by rw [hop]; intro c hc'; cases hc')]
  simp [execOp, hop, resolve, invoke, builtin, hs, hx, hrun, Result.andThen]
  exact hK' _ _ hK
/-- What a round that goes on keeps: what lay below n₀, every object and every place. -/
structure KpW (n₀ : Nat) (W W' : World) : Prop where
  size : W.heap.size ≤ W'.heap.size
  low : ∀ g : Nat, g < W.heap.size → g < n₀ → W'.heap[g]? = W.heap[g]?
  obj : ∀ (g : Nat) (cur : Array Value) (fr : Nat × Nat), W.heap[g]? = some (Obj.cells cur 30 fr) → W'.heap[g]? = W.heap[g]?
  plc : ∀ (g : Nat) (cur : Array Value) (fr : Nat × Nat), W.heap[g]? = some (Obj.cells cur 177 fr) → W'.heap[g]? = W.heap[g]?
theorem KpW.trans {n₀ : Nat} {A B C : World} (h : KpW n₀ A B) (k : KpW n₀ B C) : KpW n₀ A C :=
  ⟨Nat.le_trans h.size k.size, fun g hg hn => (k.low g (Nat.lt_of_lt_of_le hg h.size) hn).trans (h.low g hg hn), fun g cur fr hg => (k.obj g cur fr ((h.obj g cur fr hg).trans hg)).trans (h.obj g cur fr hg), fun g cur fr hg => (k.plc g cur fr ((h.plc g cur fr hg).trans hg)).trans (h.plc g cur fr hg)⟩
theorem KpW.below {n₀ : Nat} {W W' : World} (h : Below W.heap.size W W') : KpW n₀ W W' :=
  ⟨h.size, fun g hg _ => h.block g hg, fun g cur fr hg => h.block g (Array.getElem?_eq_some_iff.1 hg).1, fun g cur fr hg => h.block g (Array.getElem?_eq_some_iff.1 hg).1⟩
theorem KpW.put {n₀ : Nat} {w : World} (hn : n₀ ≤ w.heap.size) (W : World) (l : Nat) (o o' : Obj) (hl : w.heap.size ≤ l) (h : W.heap[l]? = some o) (hc : o.isCells = false) : KpW n₀ W (W.putObj l o') := by
  have ne : ∀ g cur T fr, W.heap[g]? = some (.cells cur T fr) → g ≠ l := fun g cur T fr hg e => by
    subst e
    rw [h] at hg
    injection hg with hg
    subst hg
    cases hc
  exact ⟨by rw [show (W.putObj l o').heap.size = W.heap.size from by simp [World.putObj]]; exact Nat.le_refl _, fun g hg hn' => World.putObj_heap_other (by omega), fun g cur fr hg => World.putObj_heap_other (ne g cur _ fr hg), fun g cur fr hg => World.putObj_heap_other (ne g cur _ fr hg)⟩
/-- What the iterator needs of a world. -/
structure ItW (w : World) (S : Nat → Prop) (Bo : Nat) (cs : Array Value) (B : Nat) (v : Value) (st : List Fr) (wr : World) : Prop where
  old : ∀ g, S g → wr.heap[g]? = w.heap[g]?
  box : wr.heap[Bo]? = some (.cells cs 30 (0, 0))
  base : B ≤ wr.heap.size
  stk : PlS wr B v st
theorem ItW.keep {w : World} {S : Nat → Prop} {Bo B : Nat} {cs : Array Value} {v : Value} {st : List Fr} {wr W : World} {n₀ : Nat} (h : ItW w S Bo cs B v st wr) (hS : ∀ g, S g → g < n₀) (hw : n₀ ≤ B) (hk : KpW n₀ wr W) : ItW w S Bo cs B v st W :=
  ⟨fun g hg => (hk.low g (by have := hS g hg; have := h.base; omega) (hS g hg)).trans (h.old g hg), (hk.obj Bo _ _ h.box).trans h.box, Nat.le_trans h.base hk.size, h.stk.same fun b hb => by
    obtain ⟨cur, hc⟩ := h.stk.tag b hb
    exact hk.plc b _ _ hc⟩
theorem ItW.next {w : World} {S : Nat → Prop} {Bo B g c : Nat} {cs : Array Value} {f : Fr} {fs : List Fr} {wr w5 : World} {n₀ : Nat} (h : ItW w S Bo cs B (.slice (some ⟨g, 0, none⟩) (fs.length + 1) c) (f :: fs) wr) (hS : ∀ g, S g → g < n₀) (hw : n₀ ≤ B) (hk : NxK wr g (fs.length * 6) f.i w5) :
    ItW w S Bo cs B (.slice (some ⟨g, 0, none⟩) (fs.length + 1) c) ({ f with i := f.i + 1 } :: fs) w5 := by
  obtain ⟨g', c', hv, hbg, hgw, hpop, hcap, ht, hstep⟩ := h.stk.top
  injection hv with e1 e2 e3
  injection e1 with e1
  injection e1 with e1
  subst e1 e3
  obtain ⟨cur, htag⟩ := h.stk.tag g rfl
  have hne : Bo ≠ g := fun e => by
    have := h.box
    rw [e, htag] at this
    injection this with this
    injection this with _ h2 _
    cases h2
  refine ⟨fun a ha => ?_, ?_, Nat.le_trans h.base hk.size, hstep w5 (hk.block g hgw)⟩
  · have h1 := hS a ha
    have h2 := h.base
    exact (hk.grown.block a (by omega) (fun e => by injection e with e; omega)).trans (h.old a ha)
  · exact (hk.grown.block Bo (row_lt _ _ _ h.box) (fun e => by injection e with e; exact hne e)).trans h.box
theorem ItW.pop {w : World} {S : Nat → Prop} {Bo B g c : Nat} {cs : Array Value} {f : Fr} {fs : List Fr} {wr : World} (h : ItW w S Bo cs B (.slice (some ⟨g, 0, none⟩) (fs.length + 1) c) (f :: fs) wr) : ItW w S Bo cs B (.slice (some ⟨g, 0, none⟩) fs.length c) fs wr := by
  obtain ⟨g', c', hv, hbg, hgw, hpop, hcap, ht, hstep⟩ := h.stk.top
  injection hv with e1 e2 e3
  injection e1 with e1
  injection e1 with e1
  subst e1 e3
  exact ⟨h.old, h.box, h.base, hpop⟩
theorem ItW.on {w : World} {S : Nat → Prop} {Bo B : Nat} {cs : Array Value} {v : Value} {st : List Fr} {wr W : World} {n₀ : Nat} (h : ItW w S Bo cs B v st wr) (hS : ∀ g, S g → g < n₀) (hw : n₀ ≤ B) (hb : Below wr.heap.size wr W) : ItW w S Bo cs B v st W := h.keep (n₀ := n₀) hS hw (KpW.below hb)
/-- One more place. -/
theorem ItW.push {w : World} {S : Nat → Prop} {Bo B g m c : Nat} {cs : Array Value} {st : List Fr} {wr : World} {n₀ : Nat} (h : ItW w S Bo cs B (.slice (some ⟨g, 0, none⟩) m c) st wr) (hS : ∀ g, S g → g < n₀) (hw : n₀ ≤ B) (f : Fr) (hi : f.i = 0) (ho : f.d0.oneCell' = true ∧ f.d1.oneCell' = true ∧ f.d2.oneCell' = true ∧ f.d3.oneCell' = true ∧ f.d4.oneCell' = true) (hl : st.length ≤ 100000000) :
    ∃ A c' w'', (Builtin.append_ #[178, 178] 178 #[.slice (some ⟨g, 0, none⟩) m c, .slice (some ⟨wr.heap.size, 0, none⟩) 1 1]).run Tryz.prog (wr.alloc (.cells #[f.d0, f.d1, f.d2, f.d3, f.d4, .int .i64 0] 177)) = .ok (.slice A (st.length + 1) c') w'' ∧ ItW w S Bo cs B (.slice A (st.length + 1) c') (f :: st) w'' ∧ wr.grownBy w'' (some g) ∧ B ≤ g := by
  obtain ⟨A, c', w'', hrun, hp, hgr⟩ := h.stk.push f hi ho hl h.base
  have hgr : wr.grownBy w'' (some g) := hgr
  have hbg := (h.stk.lt g rfl).2
  obtain ⟨cur, htag⟩ := h.stk.tag g rfl
  have hne : Bo ≠ g := fun e => by
    have := h.box
    rw [e, htag] at this
    injection this with this
    injection this with _ h2 _
    cases h2
  refine ⟨A, c', w'', hrun, ⟨fun a ha => ?_, ?_, Nat.le_trans h.base hgr.size, hp⟩, hgr, hbg⟩
  · have h1 := hS a ha
    have h2 := h.base
    exact (hgr.block a (by omega) (fun e => by injection e with e; omega)).trans (h.old a ha)
  · exact (hgr.block Bo (row_lt _ _ _ h.box) (fun e => by injection e with e; exact hne e)).trans h.box
theorem below_grown {w w' : World} (h : Below w.heap.size w w') : w.grownBy w' none := ⟨h.os, h.tape, h.output, h.size, fun k hk _ => h.block k hk⟩
theorem rest_cons (f : Fr) (fs : List Fr) : Rest (f :: fs) = f.ys ++ Rest fs := by simp [Rest]
set_option maxHeartbeats 16000000 in
theorem within_hands (n : Nat) (hn : 1 ≤ n) (n₀ Bo : Nat) (w : World) (S : Nat → Prop) (x : Ob) (c0 c1 c2 c3 c4 : Value) (ys : List Part) (hx : ObR w S x c0 c1 c2 c3 c4) (hok : okO x) (hy : WkO w S 0 x c3 c4 ys) (hS : ∀ g, S g → g < n₀) (hn₀ : n₀ ≤ w.heap.size)
    (hBo : w.heap[Bo]? = some (.cells #[c0, c1, c2, c3, c4] 30 (0, 0))) :
    Hands Fence.wide n Tryz.prog 126 #[.pointer (some ⟨Bo, 0, none⟩)] (fun p : Part => #[.int .i64 p.a, p.val]) (KpW n₀) (⟨0, x, c0, c1, c2, c3, c4⟩ :: ys) w := by
  intro l J Jx W hbW hJ hJx hY h0
  obtain ⟨k, n1, B2, p2, g2, B3, p3, g3, B4, p4, g4, hfr, hused⟩ := used_fr hx hok hy
  obtain ⟨k9, n9, A29, m29, c29, A39, m39, c39, A49, m49, c49, rfl, rfl, rfl, rfl, rfl⟩ := hx.form
  have hboxW := (hbW.block Bo (row_lt _ _ _ hBo)).trans hBo
  obtain ⟨q0, q1, q2, q3, q4, -⟩ := row5_cells hboxW
  have hY1 := hY [] ⟨0, x, .int .i64 k9, .int .i64 n9, .slice A29 m29 c29, .slice A39 m39 c39, .slice A49 m49 c49⟩ W (by simp) h0
  simp only [List.nil_append] at hY1
  obtain ⟨XS, hXS⟩ : ∃ XS, (⟨0, x, .int .i64 k9, .int .i64 n9, .slice A29 m29 c29, .slice A39 m39 c39, .slice A49 m49 c49⟩ :: ys : List Part) = XS := ⟨_, rfl⟩
  rw [hXS] at hY ⊢
  have HXS := Lib.hid hXS
  have HYA := Lib.hid hY
  have HJ := Lib.hid hJ
  have HJX := Lib.hid hJx
  have HU := Lib.hid hused
  have HFR := Lib.hid hfr
  have HS := Lib.hid hS
  have HBW := Lib.hid hbW
  have HBX := Lib.hid hboxW
  have HN0 := Lib.hid hn₀
  have HOB := Lib.hid (fun p hp => WkO.obs x 0 _ _ ys hy p hp)
  clear hY hJ hJx hused hfr hS hbW hboxW hBo hx hok hy hn₀ h0 hXS
  obtain ⟨fn, tmps, assign, body, hy1, hR1⟩ := hY1
  simp only [Part.val, Int.cast_ofNat_Int] at hy1
  have HR1 := Lib.hid hR1
  clear hR1
  refine callsIn_of_wp Tryz.func126 rfl trivial ?_ rfl
  simp only [Tryz.ntmps126, List.size_toArray, List.length_cons, List.length_nil, Nat.reduceAdd, Nat.reduceSub, Array.replicate_succ, Array.replicate_zero, List.push_toArray, List.append_toArray, List.nil_append, List.cons_append]
  gi_wp2
  refine HR1.out.mono ?_
  rintro e W3 (⟨rfl, hJ3, hk3⟩ | ⟨rfl, hJx3⟩)
  rotate_left
  · gi_wp2
    refine bodyPost_ret (results_none rfl _ _ _) rfl ?_
    exact ⟨⟨_, rfl⟩, .inr ⟨_, ⟨ys, by rw [← HXS.out]; rfl⟩, hJx3⟩⟩
  have hbox3 := (hk3.obj Bo _ _ HBX.out).trans HBX.out
  have HJ3 := Lib.hid hJ3
  have HK3 := Lib.hid hk3
  have HB3 := Lib.hid hbox3
  clear hJ3 hk3 q0 q1 q2 q3 q4 hy1 HR1
  obtain ⟨q0, q1, q2, q3, q4, -⟩ := row5_cells hbox3
  clear hbox3
  gi_wp2_with (refine ⟨trivial, ?_⟩; gi_at_call 127; refine (callsIn_wide.2 (HU.out _)).mono ?_; (rintro e w4 ⟨rfl, hb4⟩); have HB4 := Lib.hid hb4; clear hb4)
  have hit : ItW w S Bo #[.int .i64 k9, .int .i64 n9, .slice A29 m29 c29, .slice A39 m39 c39, .slice A49 m49 c49] W.heap.size (.slice (some ⟨w4.heap.size, 0, none⟩) 1 1) [⟨.int .i64 k, .int .i64 n1, .slice B2 p2 g2, .slice B3 p3 g3, .slice B4 p4 g4, 0, ys⟩] (w4.alloc (.cells #[.int .i64 k, .int .i64 n1, .slice B2 p2 g2, .slice B3 p3 g3, .slice B4 p4 g4, .int .i64 0] 177)) := by
    have hb5 : Below W3.heap.size W3 (w4.alloc (.cells #[.int .i64 k, .int .i64 n1, .slice B2 p2 g2, .slice B3 p3 g3, .slice B4 p4 g4, .int .i64 0] 177)) := HB4.out.alloc HB4.out.size _
    have hWs := HK3.out.size
    have hs4 := HB4.out.size
    refine ⟨fun g hg => ?_, (hb5.block Bo (row_lt _ _ _ HB3.out)).trans HB3.out, Nat.le_trans hWs hb5.size, PlS.start ⟨.int .i64 k, .int .i64 n1, .slice B2 p2 g2, .slice B3 p3 g3, .slice B4 p4 g4, 0, ys⟩ rfl (Nat.le_trans hWs hs4)⟩
    have h1 := HS.out g hg
    have h2 := HN0.out
    have h3 := HBW.out.size
    exact (hb5.block g (by omega)).trans ((HK3.out.low g (by omega) h1).trans (HBW.out.block g (by omega)))
  have HIT := Lib.hid hit
  have HJ5 : Hid (J [⟨0, x, .int .i64 k9, .int .i64 n9, .slice A29 m29 c29, .slice A39 m39 c39, .slice A49 m49 c49⟩] (w4.alloc (.cells #[.int .i64 k, .int .i64 n1, .slice B2 p2 g2, .slice B3 p3 g3, .slice B4 p4 g4, .int .i64 0] 177))) := Lib.hid (HJ.out _ _ _ none HJ3.out (by
    have hb5 : Below W3.heap.size W3 (w4.alloc (.cells #[.int .i64 k, .int .i64 n1, .slice B2 p2 g2, .slice B3 p3 g3, .slice B4 p4 g4, .int .i64 0] 177)) := HB4.out.alloc HB4.out.size _
    exact ⟨hb5.os, hb5.tape, hb5.output, hb5.size, fun k hk _ => hb5.block k hk⟩) (fun r e => by cases e))
  have HFS : Hid (FrsR w S [⟨.int .i64 k, .int .i64 n1, .slice B2 p2 g2, .slice B3 p3 g3, .slice B4 p4 g4, 0, ys⟩]) := Lib.hid ⟨HFR.out, trivial⟩
  clear hit q0 q1 q2 q3 q4 HJ3 HK3 HB3 HB4 HFR HBX
  gi_loopg [3] (2 * ys.length + 1) (fun gk v wr => ∃ (pre : List Part) (st : List Fr), XS = pre ++ Rest st ∧ 2 * (Rest st).length + st.length ≤ gk ∧ Hid (ItW w S Bo #[.int .i64 k9, .int .i64 n9, .slice A29 m29 c29, .slice A39 m39 c39, .slice A49 m49 c49] W.heap.size v st wr) ∧ Hid (FrsR w S st) ∧ Hid (J pre wr))
  case atStart => exact ⟨_, _, by rw [← HXS.out]; simp [Rest], by simp [Rest], HIT, HFS, HJ5⟩
  case round =>
    clear HIT HJ5 HFS
    obtain ⟨pre, st, hxs, hgk, HIT, HFS, HJP⟩ := hrel
    have HX := Lib.hid hxs
    have HG := Lib.hid hgk
    clear hxs hgk
    cases st with
    | nil =>
      obtain ⟨A, c, hv⟩ := HIT.out.stk.shape
      subst hv
      have hl0 : ([] : List Fr).length = 0 := rfl
      rw [hl0]
      gi_wp2
      go_end0
      exact ⟨⟨_, rfl⟩, .inl (by rw [HX.out]; simp only [Rest, List.flatMap_nil, List.append_nil]; exact HJP.out)⟩
    | cons f fs =>
      obtain ⟨g, c, hv, hbg, hgw, hpop, hcap, ht, hstep⟩ := HIT.out.stk.top
      obtain ⟨cur, htag⟩ := HIT.out.stk.tag g (by rw [hv]; rfl)
      have hfz : ∀ j, wr.frozen? ⟨g, j, none⟩ = false := fun j => by simp [World.frozen?, htag]
      obtain ⟨hfr, hfs⟩ := HFS.out
      subst hv
      have hnx := fr_next hfr (fun g hg => Nat.lt_of_lt_of_le (HS.out g hg) HN0.out)
      have hBn : n₀ ≤ W.heap.size := Nat.le_trans HN0.out HBW.out.size
      have hSB : ∀ a, S a → a ≠ g ∧ a < wr.heap.size := fun a ha => by have h1 := HS.out a ha; have h2 := HIT.out.base; exact ⟨by omega, by omega⟩
      obtain ⟨M, hM⟩ : ∃ M, fs.length = M := ⟨_, rfl⟩
      have HIN : Hid (∀ w5, NxK wr g (M * 6) f.i w5 → ItW w S Bo #[.int .i64 k9, .int .i64 n9, .slice A29 m29 c29, .slice A39 m39 c39, .slice A49 m49 c49] W.heap.size (.slice (some ⟨g, 0, none⟩) (M + 1) c) ({ f with i := f.i + 1 } :: fs) w5) := Lib.hid (fun w5 hk => by have h := HIT.out.next HS.out hBn (by rw [hM]; exact hk); rw [hM] at h; exact h)
      rw [hM] at hcap hnx ht ⊢
      have HM := Lib.hid hM
      have HFF := Lib.hid hfs
      have HGW := Lib.hid (And.intro hbg hgw)
      have HTG : Hid (Tagged wr g) := Lib.hid ⟨_, htag, .inr ⟨_, _, rfl⟩⟩
      have HBN := Lib.hid hBn
      have hMc : M + 1 ≤ c := hcap.1
      have hMx : c ≤ 9223372036854775807 := hcap.2
      rcases hnx with ⟨hys, hnx⟩ | ⟨p, y1, y2, hys, hpa, hpo, hpk, hpw, hfr2, hnx⟩
      · -- nothing is left here
        have HNX := Lib.hid (hnx wr g (M * 6) hgw ht.2.2.2.1 ht.2.2.2.2.1 ht.2.2.2.2.2 hfz)
        have HYS := Lib.hid hys
        clear hpop hcap hstep hfs hM htag hfz ht hfr hnx hSB hBn hys hbg hgw
        gi_wp2_with (refine ⟨trivial, ?_⟩; gi_at_call 128; refine (callsIn_wide.2 HNX.out).mono ?_; (rintro e w5 ⟨rfl, hk5⟩); have HK5 := Lib.hid hk5; clear hk5)
        have hb6 := (Below.refl w5.heap.size w5).alloc (Nat.le_refl _) (.cells #[.int .i64 0, .int .i64 0, .slice none 0 0, .slice none 0 0, .slice none 0 0] 30)
        have HI6 := Lib.hid ((HIN.out w5 HK5.out).on HS.out HBN.out hb6)
        have HJ6 := Lib.hid (HJ.out _ _ _ none (HJ.out _ _ _ (some g) HJP.out HK5.out.grown (fun r e => by injection e with e; rw [← e]; exact ⟨HGW.out.1, HTG.out⟩)) (below_grown hb6) (fun r e => by cases e))
        clear hb6
        gi_roundg (2 * (Rest fs).length + M)
        case measure =>
          have h1 := HG.out
          have h2 := HM.out
          rw [rest_cons, HYS.out, List.nil_append, List.length_cons] at h1
          omega
        case rel => exact ⟨pre, fs, by rw [HX.out, rest_cons, HYS.out, List.nil_append], by rw [HM.out]; exact Nat.le_refl _, Lib.hid (by have h := HI6.out; rw [← HM.out] at h ⊢; exact h.pop), HFF, HJ6⟩
      · -- the next part
        have hpx : pre ++ [p] <+: XS := ⟨y1 ++ (y2 ++ Rest fs), by rw [HX.out, rest_cons, hys]; simp⟩
        have HPX := Lib.hid hpx
        have HYS := Lib.hid hys
        have HPK := Lib.hid hpk
        have HF2 := Lib.hid hfr2
        obtain ⟨k7, n7, E2, p7, s7, E3, p8, s8, E4, p9, s9, hfn, hused7⟩ := used_fr hpo hpk.1 hpw
        have HFN := Lib.hid hfn
        have HU7 := Lib.hid hused7
        obtain ⟨ka, na, F2, r2, t2, F3, r3, t3, F4, r4, t4, z0, z1, z2, z3, z4⟩ := hpo.form
        have HPA := Lib.hid hpa
        have HY6 : Hid (∀ w5, NxK wr g (M * 6) f.i w5 → YieldAt Fence.wide (n - 1) Tryz.prog l #[.int .i64 ((M : Int) + 1), .agg #[.int .i64 ka, .int .i64 na, .slice F2 r2 t2, .slice F3 r3 t3, .slice F4 r4 t4]] (w5.alloc (.cells #[.int .i64 ka, .int .i64 na, .slice F2 r2 t2, .slice F3 r3 t3, .slice F4 r4 t4] 30)) fun e W' =>
            (e = .returned (.bool true) ∧ J (pre ++ [p]) W' ∧ KpW n₀ (w5.alloc (.cells #[.int .i64 ka, .int .i64 na, .slice F2 r2 t2, .slice F3 r3 t3, .slice F4 r4 t4] 30)) W') ∨ (e = .returned (.bool false) ∧ Jx (pre ++ [p]) W')) := Lib.hid (fun w5 hk => by
          have hb6 := (Below.refl w5.heap.size w5).alloc (Nat.le_refl _) (.cells #[.int .i64 ka, .int .i64 na, .slice F2 r2 t2, .slice F3 r3 t3, .slice F4 r4 t4] 30)
          have hj6 := HJ.out _ _ _ none (HJ.out _ _ _ (some g) HJP.out hk.grown (fun r e => by injection e with e; rw [← e]; exact ⟨HGW.out.1, HTG.out⟩)) (below_grown hb6) (fun r e => by cases e)
          have h := HYA.out pre p _ HPX.out hj6
          have e1 : (#[.int .i64 (p.a : Int), p.val] : Array Value) = #[.int .i64 ((M : Int) + 1), .agg #[.int .i64 ka, .int .i64 na, .slice F2 r2 t2, .slice F3 r3 t3, .slice F4 r4 t4]] := by
            rw [hpa]
            unfold Part.val
            rw [z0, z1, z2, z3, z4]
            simp
          rw [e1] at h
          exact h)
        have hnx2 := hnx wr g (M * 6) HIT.out.old hSB hgw ht.2.2.2.1 ht.2.2.2.2.1 ht.2.2.2.2.2 hfz
        rw [z0, z1, z2, z3, z4] at hnx2 HU7
        have HNX := Lib.hid hnx2
        clear hpop hcap hstep hfs hM htag hfz ht hfr hnx hnx2 hSB hBn hys hbg hgw hpx hpk hfr2 hfn hused7 hpa hpo hpw z0 z1 z2 z3 z4
        gi_wp2_with (refine ⟨trivial, ?_⟩; gi_at_call 128; refine (callsIn_wide.2 HNX.out).mono ?_; (rintro e w5 ⟨rfl, hk5⟩); have HK5 := Lib.hid hk5; obtain ⟨fn2, tmps2, assign2, body2, hy2, hR2⟩ := HY6.out w5 hk5; have HR2 := Lib.hid hR2; clear hk5 hR2)
        refine HR2.out.mono ?_
        rintro e W7 (⟨rfl, hJ7, hk7⟩ | ⟨rfl, hJx7⟩)
        rotate_left
        · gi_wp2
          refine bodyPost_ret (results_none rfl _ _ _) rfl ?_
          exact ⟨⟨_, rfl⟩, .inr ⟨_, HPX.out, hJx7⟩⟩
        have hb6 := (Below.refl w5.heap.size w5).alloc (Nat.le_refl _) (.cells #[.int .i64 ka, .int .i64 na, .slice F2 r2 t2, .slice F3 r3 t3, .slice F4 r4 t4] 30)
        have HI7 := Lib.hid (((HIN.out w5 HK5.out).on HS.out HBN.out hb6).keep HS.out HBN.out hk7)
        have hrow7 := (hk7.obj w5.heap.size _ _ (heap_alloc_new w5 (.cells #[.int .i64 ka, .int .i64 na, .slice F2 r2 t2, .slice F3 r3 t3, .slice F4 r4 t4] 30))).trans (heap_alloc_new w5 (.cells #[.int .i64 ka, .int .i64 na, .slice F2 r2 t2, .slice F3 r3 t3, .slice F4 r4 t4] 30))
        have HJ7 := Lib.hid hJ7
        have HR7 := Lib.hid hrow7
        clear hb6 hJ7 hk7 hy2 HR2 HY6 HNX
        obtain ⟨q0, q1, q2, q3, q4, -⟩ := row5_cells hrow7
        clear hrow7
        have HPU : Hid (∀ w8, Below W7.heap.size W7 w8 → ∃ A c' w'', (Builtin.append_ #[178, 178] 178 #[.slice (some ⟨g, 0, none⟩) (M + 1) c, .slice (some ⟨w8.heap.size, 0, none⟩) 1 1]).run Tryz.prog (w8.alloc (.cells #[.int .i64 k7, .int .i64 n7, .slice E2 p7 s7, .slice E3 p8 s8, .slice E4 p9 s9, .int .i64 0] 177)) = .ok (.slice A (M + 1 + 1) c') w'' ∧ ItW w S Bo #[.int .i64 k9, .int .i64 n9, .slice A29 m29 c29, .slice A39 m39 c39, .slice A49 m49 c49] W.heap.size (.slice A (M + 1 + 1) c') (⟨.int .i64 k7, .int .i64 n7, .slice E2 p7 s7, .slice E3 p8 s8, .slice E4 p9 s9, 0, y1⟩ :: { f with i := f.i + 1, ys := y2 } :: fs) w'' ∧ J (pre ++ [p]) w'') := Lib.hid (fun w8 h8 => by
          have hpk := HPK.out.2
          have hht : 1 ≤ htO p.x := by obtain ⟨a, x, _⟩ := p; obtain ⟨k, n, b, l, d⟩ := x; simp only [htO]; omega
          have hI8 : ItW w S Bo #[.int .i64 k9, .int .i64 n9, .slice A29 m29 c29, .slice A39 m39 c39, .slice A49 m49 c49] W.heap.size (.slice (some ⟨g, 0, none⟩) (M + 1) c) ({ f with i := f.i + 1, ys := y2 } :: fs) w8 := by
            have h := HI7.out.on HS.out HBN.out h8
            exact ⟨h.old, h.box, h.base, h.stk⟩
          obtain ⟨A, c', w'', hrun, hI, hgr, hBg⟩ := hI8.push HS.out HBN.out ⟨.int .i64 k7, .int .i64 n7, .slice E2 p7 s7, .slice E3 p8 s8, .slice E4 p9 s9, 0, y1⟩ rfl ⟨rfl, rfl, rfl, rfl, rfl⟩ (by rw [List.length_cons, HM.out]; omega)
          rw [List.length_cons, HM.out] at hrun hI
          exact ⟨A, c', w'', hrun, hI, HJ.out _ _ _ (some g) (HJ.out _ _ _ none HJ7.out (below_grown h8) (fun r e => by cases e)) hgr (fun r e => by injection e with e; subst e; exact ⟨hBg, by obtain ⟨cur, ht⟩ := hI8.stk.tag g rfl; exact ⟨_, ht, .inr ⟨_, _, rfl⟩⟩⟩)⟩)
        gi_wp2_with (first
          | (refine ⟨trivial, ?_⟩; gi_at_call 127; refine (callsIn_wide.2 (HU7.out _)).mono ?_; (rintro e w8 ⟨rfl, hb8⟩); obtain ⟨A9, c9, w9, hrun, hI9, hJ9⟩ := HPU.out w8 hb8; have HI9 := Lib.hid hI9; have HJ9 := Lib.hid hJ9; have HRUN := Lib.hid hrun; clear hb8 hI9 hJ9 hrun)
          | (gi_at_builtin; refine wpIn_append_run14 rfl (.tmp 39) (.tmp 43) 178 rfl _ _ _ rfl rfl HRUN.out ?_))
        gi_roundg (2 * (Rest (⟨.int .i64 k7, .int .i64 n7, .slice E2 p7 s7, .slice E3 p8 s8, .slice E4 p9 s9, 0, y1⟩ :: { f with i := f.i + 1, ys := y2 } :: fs)).length + (M + 1 + 1))
        case measure =>
          have h1 := HG.out
          have h2 := HM.out
          rw [rest_cons, HYS.out, List.length_cons] at h1
          rw [rest_cons, rest_cons]
          simp only [List.length_append, List.length_cons] at h1 ⊢
          omega
        case rel => exact ⟨pre ++ [p], ⟨.int .i64 k7, .int .i64 n7, .slice E2 p7 s7, .slice E3 p8 s8, .slice E4 p9 s9, 0, y1⟩ :: { f with i := f.i + 1, ys := y2 } :: fs, by rw [HX.out, rest_cons, HYS.out, rest_cons, rest_cons]; simp, by simp only [List.length_cons]; rw [HM.out]; exact Nat.le_refl _, HI9, Lib.hid ⟨by have h := HFN.out; rw [List.length_cons, HM.out]; exact h, by have h := HF2.out; rw [HM.out]; exact h, HFF.out⟩, HJ9⟩
end

section
open Go.RowKit Go.BigFrame Go.Sort
set_option linter.unusedVariables false
set_option maxRecDepth 100000
attribute [local go_sem] Oper.semAt_some
mutual
theorem WkO.small {w : World} {S : Nat → Prop} : ∀ (x : Ob) (a : Nat) (c3 c4 : Value) (ys : List Part), WkO w S a x c3 c4 ys → ∀ p ∈ ys, p.a ≤ 100000000
  | .mk k n b l d, a, c3, c4, ys, h => by
    unfold WkO at h
    split at h
    · obtain ⟨A, m, c, g, o, _, _, _, _, h⟩ := h
      exact WkL.small l (a + 1) g o ys h
    · split at h
      · obtain ⟨A, m, c, g, o, _, _, _, _, h⟩ := h
        exact WkE.small d (a + 1) g o ys h
      · subst h
        intro p hp
        cases hp
theorem WkL.small {w : World} {S : Nat → Prop} : ∀ (l : Obs) (a g o : Nat) (ys : List Part), WkL w S a l g o ys → ∀ p ∈ ys, p.a ≤ 100000000
  | .nil, a, g, o, ys, h => by
    unfold WkL at h
    subst h
    intro p hp
    cases hp
  | .cons x xs, a, g, o, ys, h => by
    unfold WkL at h
    obtain ⟨c0, c1, c2, c3, c4, y1, y2, _, hx, hk, h1, h2, rfl⟩ := h
    intro p hp
    rcases List.mem_cons.1 hp with rfl | hp
    · have := hk.2; dsimp only; omega
    · rcases List.mem_append.1 hp with hp | hp
      · exact WkO.small x a c3 c4 y1 h1 p hp
      · exact WkL.small xs a g (o + 5) y2 h2 p hp
theorem WkE.small {w : World} {S : Nat → Prop} : ∀ (d : Ens) (a g o : Nat) (ys : List Part), WkE w S a d g o ys → ∀ p ∈ ys, p.a ≤ 100000000
  | .nil, a, g, o, ys, h => by
    unfold WkE at h
    subst h
    intro p hp
    cases hp
  | .cons s x xs, a, g, o, ys, h => by
    unfold WkE at h
    obtain ⟨c0, c1, c2, c3, c4, y1, y2, _, hx, hk, h1, h2, rfl⟩ := h
    intro p hp
    rcases List.mem_cons.1 hp with rfl | hp
    · have := hk.2; dsimp only; omega
    · rcases List.mem_append.1 hp with hp | hp
      · exact WkO.small x a c3 c4 y1 h1 p hp
      · exact WkE.small xs a g (o + 6) y2 h2 p hp
end
theorem others_below {W W' : World} (h : Below W.heap.size W W') : KeepsOthers W W' := ⟨h.size, fun k o hk _ => (h.block k (Array.getElem?_eq_some_iff.1 hk).1).trans hk⟩
theorem row_lt1 {w : World} {g : Nat} {o : Obj} (h : w.heap[g]? = some o) : g < w.heap.size := (Array.getElem?_eq_some_iff.1 h).1
theorem layN_int (x : Ob) : (if x.kind = 6 ∨ x.kind = 7 ∨ x.kind = 8 then (1 : Int) else 0) = (layN x : Int) := by unfold layN; split <;> rfl
set_option maxHeartbeats 16000000 in
theorem pMayC (x : Ob) (S : Nat → Prop) (w : World) (c0 c1 c2 c3 c4 : Value) (hx : ObR w S x c0 c1 c2 c3 c4) (hS : ∀ g, S g → g < w.heap.size) (hok : okO x) (hht : htO x ≤ 100000000) :
    Calls Tryz.prog 45 #[.agg #[c0, c1, c2, c3, c4]] w fun r w' => r = .returned (.bool (mayO x 28)) ∧ Below w.heap.size w w' := by
  obtain ⟨k9, n9, A29, m29, c29, A39, m39, c39, A49, m49, c49, rfl, rfl, rfl, rfl, rfl⟩ := hx.form
  obtain ⟨MB, hMB⟩ : ∃ MB, mayO x 28 = MB := ⟨_, rfl⟩
  rw [hMB]
  refine (callsIn_wide (n := 8)).1 ?_
  refine callsIn_of_wp_marks Tryz.func45 rfl trivial ?_ rfl
  simp only [Tryz.ntmps45, List.size_toArray, List.length_cons, List.length_nil, Nat.reduceAdd, Nat.reduceSub, Array.replicate_succ, Array.replicate_zero, List.push_toArray, List.append_toArray, List.nil_append, List.cons_append]
  gi_wp2_with (refine ⟨trivial, ?_⟩; gi_at_call 86; refine (callsIn_wide.2 (withinC _ _ _ _ _ _ _ _ _ _ _ _)).mono ?_; rintro e w' ⟨rfl, rfl⟩)
  have hb0 : Below w.heap.size w (((w.alloc (.cells #[.int .i64 k9, .int .i64 n9, .slice A29 m29 c29, .slice A39 m39 c39, .slice A49 m49 c49] 30)).alloc (.cells #[.bool false] 4)).alloc (.cells #[.int .i64 k9, .int .i64 n9, .slice A29 m29 c29, .slice A39 m39 c39, .slice A49 m49 c49] 30)) := (((Below.refl _ w).alloc (Nat.le_refl _) _).alloc (by simp) _).alloc (by simp; omega) _
  have hs0 : (((w.alloc (.cells #[.int .i64 k9, .int .i64 n9, .slice A29 m29 c29, .slice A39 m39 c39, .slice A49 m49 c49] 30)).alloc (.cells #[.bool false] 4)).alloc (.cells #[.int .i64 k9, .int .i64 n9, .slice A29 m29 c29, .slice A39 m39 c39, .slice A49 m49 c49] 30)).heap.size = w.heap.size + 3 := by simp
  have hr1 : (((w.alloc (.cells #[.int .i64 k9, .int .i64 n9, .slice A29 m29 c29, .slice A39 m39 c39, .slice A49 m49 c49] 30)).alloc (.cells #[.bool false] 4)).alloc (.cells #[.int .i64 k9, .int .i64 n9, .slice A29 m29 c29, .slice A39 m39 c39, .slice A49 m49 c49] 30)).heap[w.heap.size + 1]? = some (.cells #[.bool false] 4 (0, 0)) := by
    rw [heap_alloc_old (o := _) (h := by simp)]
    exact heap_alloc2_new w _ _
  have hr2 : (((w.alloc (.cells #[.int .i64 k9, .int .i64 n9, .slice A29 m29 c29, .slice A39 m39 c39, .slice A49 m49 c49] 30)).alloc (.cells #[.bool false] 4)).alloc (.cells #[.int .i64 k9, .int .i64 n9, .slice A29 m29 c29, .slice A39 m39 c39, .slice A49 m49 c49] 30)).heap[w.heap.size + 1 + 1]? = some (.cells #[.int .i64 k9, .int .i64 n9, .slice A29 m29 c29, .slice A39 m39 c39, .slice A49 m49 c49] 30 (0, 0)) := by
    have := heap_alloc_new ((w.alloc (.cells #[.int .i64 k9, .int .i64 n9, .slice A29 m29 c29, .slice A39 m39 c39, .slice A49 m49 c49] 30)).alloc (.cells #[.bool false] 4)) (.cells #[.int .i64 k9, .int .i64 n9, .slice A29 m29 c29, .slice A39 m39 c39, .slice A49 m49 c49] 30)
    simpa using this
  obtain ⟨W0, hW0⟩ : ∃ W0, ((w.alloc (.cells #[.int .i64 k9, .int .i64 n9, .slice A29 m29 c29, .slice A39 m39 c39, .slice A49 m49 c49] 30)).alloc (.cells #[.bool false] 4)).alloc (.cells #[.int .i64 k9, .int .i64 n9, .slice A29 m29 c29, .slice A39 m39 c39, .slice A49 m49 c49] 30) = W0 := ⟨_, rfl⟩
  rw [hW0] at hb0 hs0 hr1 hr2 ⊢
  have hx0 : ObR W0 S x (.int .i64 k9) (.int .i64 n9) (.slice A29 m29 c29) (.slice A39 m39 c39) (.slice A49 m49 c49) := ObR.keep (fun g hg => hb0.block g (hS g hg)) (fun _ h => h) _ hx
  obtain ⟨ys, hys⟩ := WkO.ex x 0 _ _ _ _ _ hx0 hok (by omega)
  have hhand := within_hands (8 - 1) (by omega) w.heap.size (w.heap.size + 1 + 1) W0 S x _ _ _ _ _ ys hx0 hok hys hS hb0.size hr2
  have hmay := WkO.may x 0 _ _ ys hys (by omega)
  have hpob : ∀ p, p ∈ ((⟨0, x, .int .i64 k9, .int .i64 n9, .slice A29 m29 c29, .slice A39 m39 c39, .slice A49 m49 c49⟩ : Part) :: ys) → ObR W0 S p.x p.c0 p.c1 p.c2 p.c3 p.c4 ∧ p.a ≤ 100000000 := fun p hp => by
    rcases List.mem_cons.1 hp with rfl | hp
    · exact ⟨hx0, by dsimp only; omega⟩
    · exact ⟨WkO.obs x 0 _ _ ys hys p hp, WkO.small x 0 _ _ ys hys p hp⟩
  have hres : MB = true ↔ ∀ p ∈ ((⟨0, x, .int .i64 k9, .int .i64 n9, .slice A29 m29 c29, .slice A39 m39 c39, .slice A49 m49 c49⟩ : Part) :: ys), PartOk p := by
    have e : (28 : Int) - ((0 : Nat) : Int) = 28 := by simp
    rw [e] at hmay
    rw [← hMB, hmay]
    simp only [List.mem_cons, forall_eq_or_imp]
    unfold PartOk
    rfl
  obtain ⟨XS, hXS⟩ : ∃ XS, ((⟨0, x, .int .i64 k9, .int .i64 n9, .slice A29 m29 c29, .slice A39 m39 c39, .slice A49 m49 c49⟩ : Part) :: ys) = XS := ⟨_, rfl⟩
  rw [hXS] at hhand hpob hres
  have HRES := Lib.hid hres
  have HPO := Lib.hid hpob
  have HB0 := Lib.hid hb0
  have HS0 := Lib.hid hs0
  have HS := Lib.hid hS
  clear hMB hmay hx hx0 hys hres hpob hW0 hr2 hXS hok hht
  have hmem : ∀ (pre : List Part) (p : Part), pre ++ [p] <+: XS → p ∈ XS := fun pre p h => h.subset (by simp)
  have HMEM := Lib.hid hmem
  clear hmem
  refine wp_hands (α := Part) rfl (by omega) (gf := 126) (lb := #[.pointer (some ⟨w.heap.size + 1 + 1, 0, none⟩)]) rfl trivial (enters_of Tryz.func126 (by kernel_rfl) rfl)
    hhand (fun h k => h.trans k) (fun W l o o' => KpW.put hb0.size W l o o') (fun _ => rfl)
    (fun pre W => (∀ p ∈ pre, PartOk p) ∧ Below w.heap.size w W ∧ W.heap[w.heap.size + 1]? = some (.cells #[.bool false] 4 (0, 0)))
    (fun pre W => (∃ p ∈ pre, ¬ PartOk p) ∧ Below w.heap.size w W ∧ W.heap[w.heap.size + 1]? = some (.cells #[.bool false] 4 (0, 0)))
    (fun s A B row hs hg hr => ⟨hs.1, hs.2.1.grown hg hs.2.1.size (fun k e => by have := (hr k e).1; omega), (hg.block _ (row_lt1 hs.2.2) (fun e => by have := (hr _ e.symm).1; omega)).trans hs.2.2⟩)
    (fun s A B row hs hg hr => ⟨hs.1, hs.2.1.grown hg hs.2.1.size (fun k e => by have := (hr k e).1; omega), (hg.block _ (row_lt1 hs.2.2) (fun e => by have := (hr _ e.symm).1; omega)).trans hs.2.2⟩)
    ⟨(fun p hp => by cases hp), hb0, hr1⟩ (fun W W' h => KpW.below h)
    (fun p a' W => ∃ Bp, W.heap[Bp]? = some (.cells #[p.c0, p.c1, p.c2, p.c3, p.c4] 30 (0, 0)) ∧ a' = { tmps := #[.agg #[.int .i64 k9, .int .i64 n9, .slice A29 m29 c29, .slice A39 m39 c39, .slice A49 m49 c49], .pointer (some ⟨w.heap.size, 0, none⟩), .pointer (some ⟨w.heap.size + 1, 0, none⟩), .int .i64 p.a, .pointer (some ⟨Bp, 0, none⟩), .agg #[.int .i64 k9, .int .i64 n9, .slice A29 m29 c29, .slice A39 m39 c39, .slice A49 m49 c49], .func (.func 126) #[] #[.pointer (some ⟨w.heap.size + 1 + 1, 0, none⟩)], .int .i64 p.a, p.val, undef, undef, undef, undef, undef, undef, undef, undef, undef, undef], defers := [] })
    (by
      rintro p a' W l o o' hl ho ⟨Bp, hB, e⟩
      exact ⟨Bp, (World.putObj_heap_other (fun e2 => by subst e2; rw [hl] at hB; injection hB with hB; subst hB; cases ho)).trans hB, e⟩) ?assign ?body ?done ?stop
  case assign =>
    intro l pre p W K hpx hK
    obtain ⟨hob, hpa⟩ := HPO.out p (HMEM.out pre p hpx)
    obtain ⟨pa, px, e0, e1, e2, e3, e4⟩ := p
    obtain ⟨ka, na, F2, r2, t2, F3, r3, t3, F4, r4, t4, z0, z1, z2, z3, z4⟩ := hob.form
    dsimp only at z0 z1 z2 z3 z4
    subst z0 z1 z2 z3 z4
    have HK := Lib.hid hK
    clear hK hob hpa hhand
    dsimp only [Part.val]
    gi_wp2
    exact HK.out _ _ ((Below.refl _ _).alloc (Nat.le_refl _) _) ⟨W.heap.size, heap_alloc_new W _, rfl⟩
  case body =>
    rintro l pre p a' W ⟨hall, hB, hr⟩ ⟨Bp, hBp, rfl⟩ hpx
    obtain ⟨hob, hpa⟩ := HPO.out p (HMEM.out pre p hpx)
    have hobW := fun W' (hW' : Below W.heap.size W W') => ObR.keep (w' := W') (S' := S) (fun g hg => ((hB.trans (hW'.mono hB.size)).block g (HS.out g hg)).trans (HB0.out.block g (HS.out g hg)).symm) (fun _ h => h) _ hob
    have hkd := kind_c0 hob
    obtain ⟨pa, px, e0, e1, e2, e3, e4⟩ := p
    obtain ⟨ka, na, F2, r2, t2, F3, r3, t3, F4, r4, t4, z0, z1, z2, z3, z4⟩ := hob.form
    dsimp only at z0 z1 z2 z3 z4 hobW hBp hpa hkd
    subst z0 z1 z2 z3 z4
    injection hkd with _ hkd
    have hly := layN_int px
    rw [← hkd] at hly
    obtain ⟨L1, hL1⟩ : ∃ L1 : Int, (if ka = 6 ∨ ka = 7 ∨ ka = 8 then (1 : Int) else 0) = L1 := ⟨_, rfl⟩
    rw [hL1] at hly
    have hL2 : 0 ≤ L1 ∧ L1 ≤ 1 := by rw [← hL1]; split <;> omega
    have HLY : Hid (∀ W', Calls Tryz.prog 87 #[.agg #[.int .i64 ka, .int .i64 na, .slice F2 r2 t2, .slice F3 r3 t3, .slice F4 r4 t4]] W' fun e w' => e = .returned (.int .i64 L1) ∧ Below W'.heap.size W' w') := Lib.hid (fun W' => by rw [← hL1]; exact layerC ka _ _ _ _ W')
    obtain ⟨B, hBo⟩ : ∃ B : Bool, B = true ↔ SoundP px := by classical exact ⟨decide (SoundP px), by rw [decide_eq_true_eq]⟩
    have HSO : Hid (∀ W', Below W.heap.size W W' → Calls Tryz.prog 88 #[.agg #[.int .i64 ka, .int .i64 na, .slice F2 r2 t2, .slice F3 r3 t3, .slice F4 r4 t4]] W' fun e w' => e = .returned (.bool B) ∧ Below W'.heap.size W' w') := Lib.hid (fun W' hW' => (soundC px _ _ _ _ _ W' (hobW W' hW') (fun g hg => Nat.lt_of_lt_of_le (HS.out g hg) (hB.trans (hW'.mono hB.size)).size)).mono fun r w' ⟨h1, h2⟩ => ⟨h1.yes B hBo, h2⟩)
    have HCE : Hid (∀ W', Below W.heap.size W W' → W'.cell? ⟨Bp, 0, none⟩ = some (.int .i64 ka) ∧ W'.cell? ⟨Bp, 1, none⟩ = some (.int .i64 na) ∧ W'.cell? ⟨Bp, 2, none⟩ = some (.slice F2 r2 t2) ∧ W'.cell? ⟨Bp, 3, none⟩ = some (.slice F3 r3 t3) ∧ W'.cell? ⟨Bp, 4, none⟩ = some (.slice F4 r4 t4) ∧ W'.cell? ⟨w.heap.size + 1, 0, none⟩ = some (.bool false) ∧ W'.frozen? ⟨w.heap.size + 1, 0, none⟩ = false) := Lib.hid (fun W' hW' => by
      have e1 := (hW'.block Bp (row_lt1 hBp)).trans hBp
      have e2 := (hW'.block _ (row_lt1 hr)).trans hr
      exact ⟨cell_of_row _ _ 0 _ _ (0, 0) e1, cell_of_row _ _ 1 _ _ (0, 0) e1, cell_of_row _ _ 2 _ _ (0, 0) e1, cell_of_row _ _ 3 _ _ (0, 0) e1, cell_of_row _ _ 4 _ _ (0, 0) e1, cell_of_row _ _ 0 _ _ (0, 0) e2, by simp [World.frozen?, e2]⟩)
    have HPT : Hid (PartOk ⟨pa, px, .int .i64 ka, .int .i64 na, .slice F2 r2 t2, .slice F3 r3 t3, .slice F4 r4 t4⟩ ↔ (pa : Int) + L1 ≤ 28 ∧ B = true) := Lib.hid (by
      unfold PartOk
      dsimp only
      rw [← hBo, hly]
      constructor
      · rintro ⟨h1, h2⟩; exact ⟨by omega, h2⟩
      · rintro ⟨h1, h2⟩; exact ⟨by omega, h2⟩)
    have HBF : Hid (∀ W', Below W.heap.size W W' → KeepsOthers W (W'.setCell ⟨w.heap.size + 1, 0, none⟩ (.bool false)) ∧ Below w.heap.size w (W'.setCell ⟨w.heap.size + 1, 0, none⟩ (.bool false)) ∧ (W'.setCell ⟨w.heap.size + 1, 0, none⟩ (.bool false)).heap[w.heap.size + 1]? = some (.cells #[.bool false] 4 (0, 0))) := Lib.hid (fun W' hW' => ⟨(others_below hW').trans (KeepsOthers.setCell _ _ _), (hB.trans (hW'.mono hB.size)).setCell (p := ⟨w.heap.size + 1, 0, none⟩) (by simp) _, heap_set W' (w.heap.size + 1) 0 (.bool false) [.bool false] _ ((hW'.block _ (row_lt1 hr)).trans hr)⟩)
    have HAL := Lib.hid hall
    have HBI := Lib.hid (fun W' (hW' : Below W.heap.size W W') => And.intro (hB.trans (hW'.mono hB.size)) ((hW'.block _ (row_lt1 hr)).trans hr))
    obtain ⟨q0, q1, q2, q3, q4, q5, q6⟩ := HCE.out W (Below.refl _ _)
    clear hob hobW hkd hly hL1 hBo hBp hall hB hr hpx hhand hr1 hb0 hs0
    dsimp only [Part.val]
    by_cases hgt : (pa : Int) + L1 > 28
    · gi_wp2_with (refine ⟨trivial, ?_⟩; gi_at_call 87; refine (CallsIn.inRound l (callsIn_wide.2 (HLY.out _))).mono ?_; (rintro e w4 ⟨rfl, hb4⟩); have HB4 := Lib.hid hb4; clear hb4 q0 q1 q2 q3 q4 q5 q6; (obtain ⟨q0, q1, q2, q3, q4, q5, q6⟩ := HCE.out _ HB4.out))
      refine ⟨trivial, ?_⟩
      gi_wp2
      have hf := HBF.out _ HB4.out
      exact ⟨hf.1, ⟨_, List.mem_append.2 (.inr (List.mem_singleton.2 rfl)), fun h => by have := (HPT.out.1 h).1; omega⟩, hf.2.1, hf.2.2⟩
    · cases B
      · gi_wp2_with (first
          | (refine ⟨trivial, ?_⟩; gi_at_call 87; refine (CallsIn.inRound l (callsIn_wide.2 (HLY.out _))).mono ?_; (rintro e w4 ⟨rfl, hb4⟩); have HB4 := Lib.hid hb4; clear hb4 q0 q1 q2 q3 q4 q5 q6; (obtain ⟨q0, q1, q2, q3, q4, q5, q6⟩ := HCE.out _ HB4.out))
          | (refine ⟨trivial, ?_⟩; gi_at_call 88; refine (CallsIn.inRound l (callsIn_wide.2 (HSO.out _ HB4.out))).mono ?_; (rintro e w5 ⟨rfl, hb5⟩); have HB5 := Lib.hid (HB4.out.trans (hb5.mono HB4.out.size)); clear hb5 q0 q1 q2 q3 q4 q5 q6; (obtain ⟨q0, q1, q2, q3, q4, q5, q6⟩ := HCE.out _ HB5.out)))
        have hf := HBF.out _ HB5.out
        exact ⟨hf.1, ⟨_, List.mem_append.2 (.inr (List.mem_singleton.2 rfl)), fun h => by have := (HPT.out.1 h).2; cases this⟩, hf.2.1, hf.2.2⟩
      · gi_wp2_with (first
          | (refine ⟨trivial, ?_⟩; gi_at_call 87; refine (CallsIn.inRound l (callsIn_wide.2 (HLY.out _))).mono ?_; (rintro e w4 ⟨rfl, hb4⟩); have HB4 := Lib.hid hb4; clear hb4 q0 q1 q2 q3 q4 q5 q6; (obtain ⟨q0, q1, q2, q3, q4, q5, q6⟩ := HCE.out _ HB4.out))
          | (refine ⟨trivial, ?_⟩; gi_at_call 88; refine (CallsIn.inRound l (callsIn_wide.2 (HSO.out _ HB4.out))).mono ?_; (rintro e w5 ⟨rfl, hb5⟩); have HB5 := Lib.hid (HB4.out.trans (hb5.mono HB4.out.size)); clear hb5 q0 q1 q2 q3 q4 q5 q6; (obtain ⟨q0, q1, q2, q3, q4, q5, q6⟩ := HCE.out _ HB5.out)))
        have hi := HBI.out _ HB5.out
        exact ⟨others_below HB5.out, KpW.below HB5.out, fun p hp => by
          rcases List.mem_append.1 hp with hp | hp
          · exact HAL.out p hp
          · rw [List.mem_singleton.1 hp]
            exact HPT.out.2 ⟨by omega, by simp⟩, hi.1, hi.2⟩
  case done =>
    rintro D W hD ⟨hall, hB, hr⟩ hK
    have hc := cell_of_row W _ 0 _ _ (0, 0) hr
    have hf : W.frozen? ⟨w.heap.size + 1, 0, none⟩ = false := by simp [World.frozen?, hr]
    have hm := HRES.out.2 hall
    subst hm
    gi_wp2
    have hK' := (KeepsOthers.setCell W ⟨w.heap.size + 1, 0, none⟩ (.bool true)).same D _ hK rfl
    refine ⟨by simp, .inl ⟨_, _, rfl, run_takeDeferred hK', ?_⟩⟩
    have hc1 := World.cell?_setCell_same' W ⟨w.heap.size + 1, 0, none⟩ (.bool true) (by rw [hc]; rfl)
    have hc5 := cell_kept hc1 (grownBy_putObj' _ D (.deferred none)) (fun r e => by cases e; exact ⟨_, hK', rfl⟩)
    refine ⟨.bool true, ?_, rfl, (hB.setCell (p := ⟨w.heap.size + 1, 0, none⟩) (by simp) _).trans (belowK_b (w := w) (Nat.le_refl _) _ D _ _ (by omega) hK' rfl rfl)⟩
    simp [results, Tryz.f45, go_sem, hc5]
  case stop =>
    rintro D pre W hD hpre ⟨⟨p, hp, hno⟩, hB, hr⟩ hK
    have hc := cell_of_row W _ 0 _ _ (0, 0) hr
    have hm : MB = false := by
      cases MB with
      | false => rfl
      | true => exact absurd (HRES.out.1 rfl p (hpre.subset hp)) hno
    subst hm
    gi_wp2
    refine ⟨by simp, .inl ⟨_, _, rfl, run_takeDeferred hK, ?_⟩⟩
    have hc5 := cell_kept (show W.cell? ⟨w.heap.size + 1, 0, none⟩ = some (.bool false) from hc) (grownBy_putObj' _ D (.deferred none)) (fun r e => by cases e; exact ⟨_, hK, rfl⟩)
    refine ⟨.bool false, ?_, rfl, hB.trans (belowK_b (w := w) (Nat.le_refl _) W D _ _ (by omega) hK rfl rfl)⟩
    simp [results, Tryz.f45, go_sem, hc5]
end
end Go.Proofs.YtliieeagbpmcgaaGreatDoor
