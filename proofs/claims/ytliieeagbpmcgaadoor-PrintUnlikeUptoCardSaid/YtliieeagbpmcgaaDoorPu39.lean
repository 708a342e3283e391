/- Contracts of functions that the law calls, and what they lean on (a part). -/
import Derived.RangeFuncNested
import Derived.RangeFuncBound
import Derived.RangeFuncCalls
import Derived.RangeFuncLeaves
import Derived.Test.YtliieeagbpmcgaaDoorPu3
namespace Go.Proofs.YtliieeagbpmcgaaDoor
section
open Go Go.RowKit
set_option linter.unusedVariables false
/-- What may be turned: a place, or what is no cells. -/
def Tagged (W : World) (r : Nat) : Prop := ∃ o : Obj, W.heap[r]? = some o ∧ (o.isCells = false ∨ ∃ cur fr, o = .cells cur 60 fr)
/-- It stands where such a block from B on is turned. -/
def Stands {β : Type} (B : Nat) (J : β → World → Prop) : Prop := ∀ s W W' row, J s W → W.grownBy W' row → (∀ r, row = some r → B ≤ r ∧ Tagged W r) → J s W'
theorem Stands.putObj {β : Type} {B : Nat} {J : β → World → Prop} (h : Stands B J) {s : β} {W : World} (l : Nat) (o' : Obj) (hs : J s W) (hl : B ≤ l) {o : Obj} (ho : W.heap[l]? = some o) (hc : o.isCells = false) : J s (W.putObj l o') :=
  h s W _ (some l) hs (grownBy_putObj' W l o') (fun r e => by cases e; exact ⟨hl, o, ho, .inl hc⟩)
theorem Stands.alloc {β : Type} {B : Nat} {J : β → World → Prop} (h : Stands B J) {s : β} {W : World} (o : Obj) (hs : J s W) : J s (W.alloc o) :=
  h s W _ none hs (World.grownBy_alloc W o none) (fun r e => by cases e)
/-- What an iterator hands to yield, one by one, till it is told to stop. -/
def Hands {α : Type} (F : Fence) (n : Nat) (P : Program) (g : Nat) (lb : Array Value) (encs : α → Array Value) (Kp : World → World → Prop) (xs : List α) (w : World) : Prop :=
  ∀ (l : Nat) (J Jx : List α → World → Prop) (W : World), Below w.heap.size w W → Stands W.heap.size J → Stands W.heap.size Jx →
    (∀ pre x W1, pre ++ [x] <+: xs → J pre W1 → YieldAt F (n - 1) P l (encs x) W1 fun e W' =>
      (e = .returned (.bool true) ∧ J (pre ++ [x]) W' ∧ Kp W1 W') ∨ (e = .returned (.bool false) ∧ Jx (pre ++ [x]) W')) →
    J [] W →
    CallsIn F n P g (#[.func (.yield l) #[] #[]] ++ lb) W fun e W' => (∃ v, e = .returned v) ∧ (J xs W' ∨ ∃ pre, pre <+: xs ∧ Jx pre W')
/-- How a round's body may end. -/
def roundEnd {α : Type} (Kp : World → World → Prop) (I Ix : List α → World → Prop) (xs : List α) (W : World) : Exit → Act → World → Prop
  | .normal, _, W' => KeepsOthers W W' ∧ Kp W W' ∧ I xs W'
  | .ret, _, W' => KeepsOthers W W' ∧ Ix xs W'
  | _, _, _ => False
section
variable {α : Type} {F : Fence} {n : Nat} {P : Program} {g : Operand} {ps : Array Tmp} {assign body : Code} {Q : Exit → Act → World → Prop} {a : Act} {w : World} {gf : Nat} {lb : Array Value} {encs : α → Array Value} {Kp : World → World → Prop} {xs : List α}
theorem wp_hands (hro : F.round = none) (h1 : 1 ≤ n) (hg : a.eval g = .func (.func gf) #[] lb) (hFg : F.fn gf) (eg : ∀ args w, (callFunc gf args).run P w = .ok (.enter gf args) w)
    (hseq : Hands F (n - 1) P gf lb encs Kp xs w) (hKt : ∀ {A B C : World}, Kp A B → Kp B C → Kp A C)
    (hKb : ∀ (W : World) (l : Nat) (o o' : Obj), w.heap.size ≤ l → W.heap[l]? = some o → o.isCells = false → Kp W (W.putObj l o')) (hps : ∀ x, (encs x).size = ps.size)
    (I Ix : List α → World → Prop) (hI : Stands w.heap.size I) (hIx : Stands w.heap.size Ix) (h0 : I [] w) (hKg : ∀ W W' : World, Below W.heap.size W W' → Kp W W')
    (Ax : α → Act → World → Prop) (hAx : ∀ (x : α) (a' : Act) (W : World) (l : Nat) (o o' : Obj), W.heap[l]? = some o → o.isCells = false → Ax x a' W → Ax x a' (W.putObj l o'))
    (hassign : ∀ (l : Nat) (pre : List α) (x : α) (W : World) (K : Act → World → Prop), pre ++ [x] <+: xs → (∀ a' W', Below W.heap.size W W' → Ax x a' W' → K a' W') →
      assign.wpIn (F.inRound l) (n - 1 - 1) P (Exit.then K (fun _ _ _ => False)) { tmps := (ps.zip (encs x)).foldl (fun t (p, v) => t.setIfInBounds p v) a.tmps, defers := [] } W)
    (hbody : ∀ (l : Nat) (pre : List α) (x : α) (a' : Act) (W : World), I pre W → Ax x a' W → pre ++ [x] <+: xs → body.wpIn (F.inRound l) (n - 1 - 1) P (roundEnd Kp I Ix (pre ++ [x]) W) a' W)
    (hdone : ∀ (D : Nat) (W : World), w.heap.size ≤ D → I xs W → W.heap[D]? = some (.deferred (some [])) → Q .normal { a with defers := { target := .collected D, args := #[] } :: a.defers } W)
    (hstop : ∀ (D : Nat) (pre : List α) (W : World), w.heap.size ≤ D → pre <+: xs → Ix pre W → W.heap[D]? = some (.deferred (some [])) → Code.ret.wpIn F n P Q { a with defers := { target := .collected D, args := #[] } :: a.defers } W) :
    (Code.rangeFunc g ps assign body).wpIn F n P Q a w := by
  refine wpIn_rangeFunc fun fn hfn => ?_
  rw [hro]
  -- the loop's record and the block for the rounds' deferred calls
  obtain ⟨L, hL⟩ : ∃ L, w.heap.size + 1 = L := ⟨_, rfl⟩
  obtain ⟨rc, hrc⟩ : ∃ rc : LoopState → Option Code → Loop, rc = fun st pe => { state := st, pending := pe, fn, tmps := a.tmps, params := ps, assign, body, defers := w.heap.size } := ⟨_, rfl⟩
  have hst := fun st pe => congrFun (congrFun (congrArg (fun f => fun s p => (f s p).state) hrc) st) pe
  obtain ⟨V, hV⟩ : ∃ V, (w.alloc (.deferred (some []))).alloc (.loop (rc .ready none)) = V := ⟨_, rfl⟩
  have sV : V.heap.size = w.heap.size + 2 := by rw [← hV]; simp
  have bV : Below w.heap.size w V := by rw [← hV]; exact ((Below.refl _ w).alloc (Nat.le_refl _) _).alloc (by simp) _
  have lV : V.heap[L]? = some (.loop (rc .ready none)) := by
    rw [← hV, ← hL]
    have := World.alloc_heap_new (w.alloc (.deferred (some []))) (.loop (rc .ready none))
    rwa [World.size_alloc] at this
  have dV : V.heap[w.heap.size]? = some (.deferred (some [])) := by
    rw [← hV]; exact (Below.heap_alloc _ _ _ (by simp)).trans (World.alloc_heap_new w _)
  have iV : I [] V := by rw [← hV]; exact hI.alloc _ (hI.alloc _ h0)
  -- a block turned from V's end on leaves both
  have stay : ∀ {A B : World} {row : Option Nat} {k : Nat} {o : Obj}, A.grownBy B row → (∀ r, row = some r → V.heap.size ≤ r) → k < V.heap.size → A.heap[k]? = some o → B.heap[k]? = some o := fun hgr hr hk ho =>
    (hgr.block _ (Array.getElem?_eq_some_iff.1 ho).1 (fun e => by have := hr _ e.symm; omega)).trans ho
  refine ⟨L, [{ target := .collected w.heap.size, args := #[] }], V, { target := .fn (.func gf) lb, args := #[.func (.yield L) #[] #[]] }, V, gf, #[.func (.yield L) #[] #[]] ++ lb, V, ?_, ?_, ?_, ?_, fun _ => h1, ?_⟩
  · rw [← hV, hrc, ← hL]; exact run_enterLoop_outer _ _ _ _ _
  · simp only [resolve, hg]
    simp [go_sem]
  · intro f' hf'; simp [Target.leads] at hf'; subst hf'; exact hFg
  · simp [invoke, go_sem, eg]
  refine (hseq L (fun pre W => I pre W ∧ W.heap[L]? = some (.loop (rc .ready none)) ∧ W.heap[w.heap.size]? = some (.deferred (some [])))
    (fun pre W => Ix pre W ∧ W.heap[L]? = some (.loop (rc .done (some .ret))) ∧ W.heap[w.heap.size]? = some (.deferred (some []))) V bV
    (fun s A B row hs hgr hr => ⟨hI s A B row hs.1 hgr (fun r e => ⟨by have := (hr r e).1; omega, (hr r e).2⟩), stay hgr (fun r e => (hr r e).1) (by omega) hs.2.1, stay hgr (fun r e => (hr r e).1) (by omega) hs.2.2⟩)
    (fun s A B row hs hgr hr => ⟨hIx s A B row hs.1 hgr (fun r e => ⟨by have := (hr r e).1; omega, (hr r e).2⟩), stay hgr (fun r e => (hr r e).1) (by omega) hs.2.1, stay hgr (fun r e => (hr r e).1) (by omega) hs.2.2⟩)
    ?_ ⟨iV, lV, dV⟩).mono ?_
  · -- a round
    rintro pre x W hpx ⟨hi, hl, hd⟩
    have hlt := (Array.getElem?_eq_some_iff.1 hl).1
    have hy := run_yield (P := P) (args := encs x) hl (by rw [hrc]; exact hps x)
    rw [hrc] at hy
    refine ⟨fn, _, assign, body, hy, roundIn_of_wpIn hfn (hassign _ pre x W _ hpx ?_)⟩
    intro a' U hU hax
    have kU := hKg W U hU
    have hi := hI pre W U none hi ⟨hU.os, hU.tape, hU.output, hU.size, fun k hk _ => hU.block k hk⟩ (fun r e => by cases e)
    have hd := (hU.block _ (by omega)).trans hd
    have hl := (hU.block _ (by omega)).trans hl
    have hlt := (Array.getElem?_eq_some_iff.1 hl).1
    clear hy
    revert kU
    obtain ⟨W0, hW0⟩ : ∃ W0, W = W0 := ⟨_, rfl⟩
    rw [hW0]
    clear hW0 hU
    obtain ⟨W, rfl⟩ : ∃ W, W = U := ⟨_, rfl⟩
    intro kU
    refine ⟨_, run_beginRound hl (hst _ _), ?_⟩
    obtain ⟨X, hX⟩ : ∃ X, W.putObj L (.loop { rc .ready none with state := .busy }) = X := ⟨_, rfl⟩
    have lX : X.heap[L]? = some (.loop { rc .ready none with state := .busy }) := by rw [← hX]; exact World.putObj_heap_same hlt
    have dX : X.heap[w.heap.size]? = some (.deferred (some [])) := by rw [← hX]; exact (World.putObj_heap_other (by omega)).trans hd
    have kX : Kp W X := by rw [← hX]; exact hKb _ _ _ _ (by omega) hl rfl
    have iX : I pre X := by rw [← hX]; exact hI.putObj _ _ hi (by omega) hl rfl
    rw [hX]
    have aX : Ax x a' X := by rw [← hX]; exact hAx x a' W L _ _ hl rfl hax
    refine wpIn_mono (hbody _ pre x a' X iX aX hpx) ?_
    -- the record behind the body
    have over : ∀ (j : Option Code) (Y : World), KeepsOthers X Y → ∃ Z, (Instr.endRound L j).run P Y = .ok (.bool j.isNone) Z ∧ Z = Y.putObj L (.loop (rc (if j.isNone then .ready else .done) j)) ∧ Z.heap[L]? = some (.loop (rc (if j.isNone then .ready else .done) j)) ∧ Z.heap[w.heap.size]? = some (.deferred (some [])) ∧ Kp Y Z ∧ Y.heap[L]? = some (.loop { rc .ready none with state := .busy }) := fun j Y hk => by
      have lY := hk.same _ _ lX rfl
      have hr := run_endRound (P := P) j lY
      have he : ({ ({ rc .ready none with state := .busy } : Loop) with state := if j.isNone then .ready else .done, pending := j } : Loop) = rc (if j.isNone then .ready else .done) j := by rw [hrc]
      rw [he] at hr
      exact ⟨_, hr, rfl, World.putObj_heap_same (Array.getElem?_eq_some_iff.1 lY).1, (World.putObj_heap_other (by omega)).trans (hk.same _ _ dX rfl), hKb _ _ _ _ (by omega) lY rfl, lY⟩
    rintro e a3 Y hp
    cases e with
    | normal =>
      obtain ⟨hk, hkp, hiY⟩ := hp
      obtain ⟨Z, hr, hZ, lZ, dZ, kZ, lY⟩ := over none Y hk
      exact ⟨_, _, hr, .inl ⟨rfl, ⟨by rw [hZ]; exact hI.putObj _ _ hiY (by omega) lY rfl, lZ, dZ⟩, hKt kU (hKt (hKt kX hkp) kZ)⟩⟩
    | ret =>
      obtain ⟨hk, hiY⟩ := hp
      obtain ⟨Z, hr, hZ, lZ, dZ, kZ, lY⟩ := over (some .ret) Y hk
      exact ⟨_, _, hr, .inr ⟨rfl, by rw [hZ]; exact hIx.putObj _ _ hiY (by omega) lY rfl, lZ, dZ⟩⟩
    | exit id => exact hp.elim
    | goto t => exact hp.elim
    | panic ch => exact hp.elim
    | outgrown => exact hp.elim
  · -- behind the iterator
    rintro e Y ⟨⟨v, rfl⟩, (⟨hi, hl, hd⟩ | ⟨pre, hpre, hi, hl, hd⟩)⟩
    · refine ⟨none, _, ?_, hdone _ _ (Nat.le_refl _) (hI.putObj L (.loop { rc .ready none with state := .exhausted }) hi (by omega) hl rfl) ((World.putObj_heap_other (by omega)).trans hd)⟩
      have := run_endLoop (P := P) hl (by rw [hst]; simp)
      rw [hrc] at this ⊢
      exact this
    · refine ⟨some .ret, _, ?_, hstop _ pre _ (Nat.le_refl _) hpre (hIx.putObj L (.loop { rc .done (some .ret) with state := .exhausted }) hi (by omega) hl rfl) ((World.putObj_heap_other (by omega)).trans hd)⟩
      have := run_endLoop (P := P) hl (by rw [hst]; simp)
      rw [hrc] at this ⊢
      exact this
end
end
end Go.Proofs.YtliieeagbpmcgaaDoor
