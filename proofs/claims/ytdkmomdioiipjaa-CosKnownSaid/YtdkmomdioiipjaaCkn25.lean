/- Contracts of functions that the law calls, and what they lean on (a part). -/
import Derived.Orders
import Derived.WalkKit
namespace Go.Proofs.Ytdkmomdioiipjaa
section
open Go
set_option linter.unusedVariables false
section
variable {P : Program} {ops : Array Oper} {Q : Exit → Act → World → Prop} {md : Region.Mode}
def unl (listed : Array Bool) : Nat := listed.toList.count false
theorem unl_set {listed : Array Bool} {i : Nat} (h : listed.getD i true = false) : unl (listed.setIfInBounds i true) + 1 = unl listed := by
  have hlt : i < listed.size := by
    rcases Nat.lt_or_ge i listed.size with h1 | h1
    · exact h1
    · rw [Array.getD_eq_getD_getElem?, Array.getElem?_eq_none h1] at h; cases h
  have hv : listed.toList[i]'(by simpa using hlt) = false := by
    rw [Array.getD_eq_getD_getElem?, Array.getElem?_eq_getElem hlt] at h
    simpa using h
  unfold unl
  rw [Array.toList_setIfInBounds]
  have hpos : 0 < listed.toList.count false := List.count_pos_iff.2 (hv ▸ List.getElem_mem _)
  have e := List.count_set (a := true) (b := false) (l := listed.toList) (i := i) (by simpa using hlt)
  rw [if_pos (by rw [hv]; rfl), if_neg (by decide)] at e
  omega
theorem ready_of_unl {listed : Array Bool} (h : unl listed = 0) : Region.ready md ops listed = [] := by
  refine List.eq_nil_iff_forall_not_mem.2 fun i hi => ?_
  have h1 := (mem_ready.1 hi).1
  have := unl_set h1
  omega
theorem wpAny_inv (I : Array Bool → Act → World → Prop)
    (hstep : ∀ (listed : Array Bool) (a : Act) (w : World) (i : Nat), I listed a w → i ∈ Region.ready md ops listed → wpOp P ops Q i (I (listed.setIfInBounds i true)) a w)
    (hend : ∀ (listed : Array Bool) (a : Act) (w : World), I listed a w → Region.ready md ops listed = [] → Q .normal a w) :
    ∀ (fuel : Nat) (listed : Array Bool) (a : Act) (w : World), unl listed ≤ fuel → I listed a w → wpAny P md ops Q fuel listed a w
  | 0, listed, a, w, h, hI => ⟨ready_of_unl (by omega), hend listed a w hI (ready_of_unl (by omega))⟩
  | fuel + 1, listed, a, w, h, hI => ⟨fun h0 => hend listed a w hI h0, fun i hi => wpOp_mono (fun a' w' h' => wpAny_inv I hstep hend fuel _ a' w' (by have := unl_set (mem_ready.1 hi).1; omega) h') (hstep listed a w i hI hi)⟩
theorem unl_start (n : Nat) : unl (Array.replicate n false) = n := by unfold unl; simp
/-- The region, by that condition. -/
theorem wp_region_inv {id : Nat} {a : Act} {w : World} (hm : P.follows .mixedOrders = true) (I : Array Bool → Act → World → Prop)
    (hstart : I (Array.replicate ops.size false) a w.drew)
    (hstep : ∀ (listed : Array Bool) (a : Act) (w : World) (i : Nat), I listed a w → i ∈ Region.ready .any ops listed → wpOp P ops Q i (I (listed.setIfInBounds i true)) a w)
    (hend : ∀ (listed : Array Bool) (a : Act) (w : World), I listed a w → Region.ready .any ops listed = [] → Q .normal a w) : (Code.region id ops true).wp P Q a w :=
  wp_region_any hm (wpAny_inv I hstep hend ops.size _ a _ (Nat.le_of_eq (unl_start _)) hstart)
/-- Nothing may come up any more: all has come up (the operations wait for earlier ones alone). -/
def inOrder (ops : Array Oper) : Bool := (List.range ops.size).all fun j => ((ops[j]?).map fun o => o.after.all fun e => decide (e.on < j)).getD true
theorem all_listed (hord : inOrder ops = true) {listed : Array Bool} (hs : listed.size = ops.size) (hr : Region.ready md ops listed = []) : ∀ j, j < ops.size → listed.getD j false = true := by
  intro j
  induction j using Nat.strongRecOn with
  | _ j ih =>
    intro hj
    have h1 := List.all_eq_true.1 hord j (List.mem_range.2 hj)
    rw [Array.getElem?_eq_getElem hj] at h1
    simp only [Option.map_some, Option.getD_some, Array.all_eq_true_iff_forall_mem, decide_eq_true_eq] at h1
    have hno : j ∉ Region.ready md ops listed := by rw [hr]; exact List.not_mem_nil
    have hlj : j < listed.size := by omega
    cases hv : listed.getD j true with
    | true => rw [Array.getD_eq_getD_getElem?, Array.getElem?_eq_getElem hlj] at hv ⊢; exact hv
    | false => exact absurd (mem_ready.2 ⟨hv, _, Array.getElem?_eq_getElem hj, fun e he _ => ih e.on (h1 e he) (Nat.lt_trans (h1 e he) hj)⟩) hno
/-- An operation that yields a value. -/
theorem wpOp_value {i : Nat} {o : Oper} {K : Act → World → Prop} {a : Act} {w w' : World} {v : Value} (ho : ops[i]? = some o) (hw : Region.wanted o (yielded ops a.tmps) = true)
    (hr : (execOp a.eval o).run P w = .ok (.value v) w') (h : K (a.put o.dst v) w') : wpOp P ops Q i K a w := by
  unfold wpOp
  rw [ho]
  simp only [hw, if_true]
  exact .inl (by unfold Oper.wp; rw [hr]; exact h)
/-- An operation that calls. -/
theorem wpOp_enter {i : Nat} {o : Oper} {K : Act → World → Prop} {a : Act} {w : World} {f : FuncId} {args : Array Value} {post : Ending → World → Prop} (ho : ops[i]? = some o) (hw : Region.wanted o (yielded ops a.tmps) = true)
    (hr : (execOp a.eval o).run P w = .ok (.enter f args) w) (hc : Calls P f args w post) (h : ∀ e w', post e w' → ∃ v, e = .returned v ∧ K (a.put o.dst v) w') : wpOp P ops Q i K a w := by
  unfold wpOp
  rw [ho]
  simp only [hw, if_true]
  refine .inl ?_
  unfold Oper.wp
  rw [hr]
  refine Calls.mono hc fun e w' he => ?_
  obtain ⟨v, rfl, hk⟩ := h e w' he
  exact hk
end
end

section
open Go
set_option linter.unusedVariables false
def updF {α : Type} (f : Nat → α) (i : Nat) (x : α) : Nat → α := fun j => if j = i then x else f j
theorem updF_self {α : Type} (f : Nat → α) (i : Nat) (x : α) : updF f i x i = x := by unfold updF; rw [if_pos rfl]
theorem updF_ne {α : Type} (f : Nat → α) {i j : Nat} (x : α) (h : j ≠ i) : updF f i x j = f j := by unfold updF; rw [if_neg h]
def dstsOk (l : List Oper) (n : Nat) : Bool := (List.range l.length).all fun i => match (l[i]?).bind (·.dst) with
  | none => true
  | some k => decide (k < n) && (List.range l.length).all fun j => decide (i = j) || !((l[j]?).bind (·.dst) == some k)
theorem dstsOk_lt {l : List Oper} {n : Nat} (h : dstsOk l n = true) {i k : Nat} {o : Oper} (ho : l[i]? = some o) (hk : o.dst = some k) : k < n := by
  have hi : i < l.length := (List.getElem?_eq_some_iff.1 ho).1
  have h1 := List.all_eq_true.1 h i (List.mem_range.2 hi)
  rw [ho, Option.bind_some, hk] at h1
  dsimp only at h1
  rw [Bool.and_eq_true] at h1
  exact of_decide_eq_true h1.1
theorem dstsOk_inj {l : List Oper} {n : Nat} (h : dstsOk l n = true) {i j k : Nat} {o p : Oper} (ho : l[i]? = some o) (hp : l[j]? = some p) (hk : o.dst = some k) (hk2 : p.dst = some k) : i = j := by
  have hi : i < l.length := (List.getElem?_eq_some_iff.1 ho).1
  have hj : j < l.length := (List.getElem?_eq_some_iff.1 hp).1
  have h1 := List.all_eq_true.1 h i (List.mem_range.2 hi)
  rw [ho, Option.bind_some, hk] at h1
  dsimp only at h1
  rw [Bool.and_eq_true] at h1
  have h2 := List.all_eq_true.1 h1.2 j (List.mem_range.2 hj)
  rw [hp, Option.bind_some, hk2] at h2
  simp only [beq_self_eq_true, Bool.not_true, Bool.or_false, decide_eq_true_eq] at h2
  exact h2
/-- Which slots have been written, and with what. -/
structure Agree (l : List Oper) (L : Nat → Bool) (V : Nat → Value) (a0 a : Act) : Prop where
  sz : a.tmps.size = a0.tmps.size
  df : a.defers = a0.defers
  hit : ∀ j o k, l[j]? = some o → o.dst = some k → L j = true → a.tmps[k]? = some (V j)
  miss : ∀ k, (∀ j o, l[j]? = some o → o.dst = some k → L j = false) → a.tmps[k]? = a0.tmps[k]?
theorem Agree.put {l : List Oper} {L : Nat → Bool} {V : Nat → Value} {a0 a : Act} (hd : dstsOk l a0.tmps.size = true) (h : Agree l L V a0 a) {i : Nat} {o : Oper} (ho : l[i]? = some o) (v : Value) :
    Agree l (updF L i true) (updF V i v) a0 (a.put o.dst v) := by
  cases hk : o.dst with
  | none =>
    refine ⟨h.sz, h.df, fun j p k hp hk2 hl => ?_, fun k hm => h.miss k fun j p hp hk2 => ?_⟩
    · by_cases hji : j = i
      · subst hji; rw [ho] at hp; injection hp with hp; subst hp; rw [hk] at hk2; cases hk2
      · rw [updF_ne _ _ hji] at hl ⊢; exact h.hit j p k hp hk2 hl
    · have := hm j p hp hk2
      by_cases hji : j = i
      · subst hji; rw [updF_self] at this; cases this
      · rwa [updF_ne _ _ hji] at this
  | some d =>
    have hdl := dstsOk_lt hd ho hk
    refine ⟨by simp [Act.put, h.sz], h.df, fun j p k hp hk2 hl => ?_, fun k hm => ?_⟩
    · simp only [Act.put]
      rw [Array.getElem?_setIfInBounds]
      by_cases hji : j = i
      · subst hji
        rw [ho] at hp; injection hp with hp; subst hp; rw [hk] at hk2; injection hk2 with hk2
        rw [if_pos hk2, if_pos (by rw [h.sz]; exact hdl), updF_self]
      · rw [updF_ne _ _ hji] at hl ⊢
        rw [if_neg (fun e => hji (dstsOk_inj hd hp ho hk2 (by rw [hk, e])))]
        exact h.hit j p k hp hk2 hl
    · simp only [Act.put]
      rw [Array.getElem?_setIfInBounds]
      by_cases hdk : d = k
      · subst hdk
        have := hm i o ho hk
        rw [updF_self] at this; cases this
      · rw [if_neg hdk]
        refine h.miss k fun j p hp hk2 => ?_
        have := hm j p hp hk2
        by_cases hji : j = i
        · subst hji; rw [updF_self] at this; cases this
        · rwa [updF_ne _ _ hji] at this
/-- All of them, from the first on. -/
def putsF : List Oper → Nat → (Nat → Value) → Act → Act
  | [], _, _, a => a
  | o :: r, n, V, a => putsF r (n + 1) V (a.put o.dst (V n))
theorem agree_puts {l : List Oper} {V : Nat → Value} {a0 : Act} (hd : dstsOk l a0.tmps.size = true) : ∀ (r : List Oper) (n : Nat) (V' : Nat → Value) (a : Act), l.drop n = r → Agree l (fun j => decide (j < n)) V' a0 a → (∀ j, j < n → V' j = V j) → ∃ V'', Agree l (fun j => decide (j < l.length)) V'' a0 (putsF r n V a) ∧ ∀ j, j < l.length → V'' j = V j
  | [], n, V', a, hr, h1, h2 => by
    have hn : l.length ≤ n := by simpa using hr
    refine ⟨V', ⟨h1.sz, h1.df, fun j o k ho hk hl => h1.hit j o k ho hk (decide_eq_true (by have := of_decide_eq_true hl; omega)), fun k hm => h1.miss k fun j o ho hk => ?_⟩, fun j hj => h2 j (by omega)⟩
    have := hm j o ho hk
    have := (List.getElem?_eq_some_iff.1 ho).1
    simp_all
  | o :: r, n, V', a, hr, h1, h2 => by
    have hln : l[n]? = some o := by
      have := congrArg (·[0]?) hr
      simpa using this
    have h3 := h1.put hd hln (V n)
    have e : (fun j => decide (j < n + 1)) = updF (fun j => decide (j < n)) n true := funext fun j => by
      unfold updF
      by_cases hj : j = n
      · subst hj; simp
      · rw [if_neg hj]; exact decide_eq_decide.2 (by omega)
    rw [← e] at h3
    refine agree_puts hd r (n + 1) (updF V' n (V n)) _ ?_ h3 (fun j hj => ?_)
    · rw [← List.tail_drop, hr]; rfl
    · by_cases hjn : j = n
      · subst hjn; rw [updF_self]
      · rw [updF_ne _ _ hjn]; exact h2 j (by omega)
theorem agree_end {l : List Oper} {L : Nat → Bool} {V : Nat → Value} {a0 a : Act} (hd : dstsOk l a0.tmps.size = true) (h : Agree l L V a0 a) (hL : ∀ j, j < l.length → L j = true) : a = putsF l 0 V a0 := by
  obtain ⟨V', h1, h2⟩ := agree_puts (V := V) hd l 0 V a0 rfl ⟨rfl, rfl, (fun j o k _ _ h => by simp at h), fun _ _ => rfl⟩ (fun _ h => by omega)
  have hsz : a.tmps.size = (putsF l 0 V a0).tmps.size := h.sz.trans h1.sz.symm
  have ht : a.tmps = (putsF l 0 V a0).tmps := by
    refine Array.ext_getElem? fun k => ?_
    by_cases hk : ∃ (j : Nat) (o : Oper), l[j]? = some o ∧ o.dst = some k
    · obtain ⟨j, o, ho, hk⟩ := hk
      have hj : j < l.length := (List.getElem?_eq_some_iff.1 ho).1
      rw [h.hit j o k ho hk (hL j hj)]
      have := h1.hit j o k ho hk (decide_eq_true hj)
      rw [h2 j hj] at this
      exact this.symm
    · have hno : ∀ (j : Nat) (o : Oper), l[j]? = some o → ¬ o.dst = some k := fun j o ho hk2 => hk ⟨j, o, ho, hk2⟩
      rw [h.miss k (fun j o ho hk2 => absurd hk2 (hno j o ho))]
      exact (h1.miss k (fun j o ho hk2 => absurd hk2 (hno j o ho))).symm
  have hdf : a.defers = (putsF l 0 V a0).defers := h.df.trans h1.df.symm
  cases a
  cases hp : putsF l 0 V a0
  rw [hp] at ht hdf
  dsimp only at ht hdf
  rw [ht, hdf]
section
variable {P : Program} {l : List Oper} {Q : Exit → Act → World → Prop}
/-- The region: F says what is known when these have come up with these values; each operation is looked at once. -/
theorem wp_region_V {id : Nat} {a0 : Act} {w : World} (hm : P.follows .mixedOrders = true) (hd : dstsOk l a0.tmps.size = true) (hord : inOrder l.toArray = true)
    (F : (Nat → Bool) → (Nat → Value) → World → Prop)
    (hstart : F (fun _ => false) (fun _ => undef) w.drew)
    (hstep : ∀ (L : Nat → Bool) (V : Nat → Value) (wx : World) (i : Nat) (o : Oper) (a : Act), l[i]? = some o → L i = false → (∀ e ∈ o.after, Region.binds .any e = true → L e.on = true) → F L V wx → Agree l L V a0 a →
      wpOp P l.toArray Q i (fun a' w' => ∃ v, a' = a.put o.dst v ∧ F (updF L i true) (updF V i v) w') a wx)
    (hend : ∀ (L : Nat → Bool) (V : Nat → Value) (wx : World), (∀ j, j < l.length → L j = true) → F L V wx → Q .normal (putsF l 0 V a0) wx) : (Code.region id l.toArray true).wp P Q a0 w := by
  refine wp_region_inv hm (fun listed a wx => listed.size = l.length ∧ ∃ V, F (fun j => listed.getD j false) V wx ∧ Agree l (fun j => listed.getD j false) V a0 a) ?_ ?_ ?_
  · have e : (fun j => (Array.replicate l.toArray.size false).getD j false) = fun _ => false := funext fun j => by
      simp only [Array.getD_eq_getD_getElem?, Array.getElem?_replicate]
      split <;> rfl
    refine ⟨by simp, fun _ => undef, ?_, ?_⟩
    · rw [e]; exact hstart
    · rw [e]; exact ⟨rfl, rfl, (fun _ _ _ _ _ h => by cases h), fun _ _ => rfl⟩
  · rintro listed a wx i ⟨hs, V, hF, hA⟩ hr
    obtain ⟨hun, o, ho, hdep⟩ := mem_ready.1 hr
    have hlt : i < listed.size := by
      rcases Nat.lt_or_ge i listed.size with h1 | h1
      · exact h1
      · rw [Array.getD_eq_getD_getElem?, Array.getElem?_eq_none h1] at hun; cases hun
    have hun2 : listed.getD i false = false := by
      rw [Array.getD_eq_getD_getElem?, Array.getElem?_eq_getElem hlt] at hun ⊢; exact hun
    have ho2 : l[i]? = some o := by simpa using ho
    refine wpOp_mono (fun a' w' h => ?_) (hstep _ V wx i o a ho2 hun2 hdep hF hA)
    obtain ⟨v, rfl, hF2⟩ := h
    have e : (fun j => (listed.setIfInBounds i true).getD j false) = updF (fun j => listed.getD j false) i true := funext fun j => by
      simp only [Array.getD_eq_getD_getElem?, Array.getElem?_setIfInBounds]
      by_cases hij : i = j
      · subst hij; rw [if_pos rfl, if_pos hlt, updF_self]; rfl
      · rw [if_neg hij, updF_ne _ _ (Ne.symm hij)]
    refine ⟨by simp [hs], updF V i v, ?_, ?_⟩
    · rw [e]; exact hF2
    · rw [e]; exact hA.put hd ho2 v
  · rintro listed a wx ⟨hs, V, hF, hA⟩ hr
    have hall := all_listed hord (by simpa using hs) hr
    have hall2 : ∀ j, j < l.length → listed.getD j false = true := fun j hj => hall j (by simpa using hj)
    rw [agree_end hd hA hall2]
    exact hend _ V wx hall2 hF
theorem wpOp_valueV {i : Nat} {o : Oper} {K : Act → World → Prop} {a : Act} {w w' : World} {v : Value} (ho : l[i]? = some o) (hg : o.guard = none)
    (hr : (execOp a.eval o).run P w = .ok (.value v) w') (h : K (a.put o.dst v) w') : wpOp P l.toArray Q i K a w :=
  wpOp_value (by simpa using ho) (by unfold Region.wanted; rw [hg]) hr h
theorem wpOp_enterV {i : Nat} {o : Oper} {K : Act → World → Prop} {a : Act} {w : World} {f : FuncId} {args : Array Value} {post : Ending → World → Prop} (ho : l[i]? = some o) (hg : o.guard = none)
    (hr : (execOp a.eval o).run P w = .ok (.enter f args) w) (hc : Calls P f args w post) (h : ∀ e w', post e w' → ∃ v, e = .returned v ∧ K (a.put o.dst v) w') : wpOp P l.toArray Q i K a w :=
  wpOp_enter (by simpa using ho) (by unfold Region.wanted; rw [hg]) hr hc h
end
theorem wpOp_skipV {P : Program} {l : List Oper} {Q : Exit → Act → World → Prop} {i : Nat} {o : Oper} {K : Act → World → Prop} {a : Act} {w w' : World} (ho : l[i]? = some o) (hg : o.guard = none)
    (hr : (execOp a.eval o).run P w = .ok .skip w') (h : K (a.put o.dst undef) w') : wpOp P l.toArray Q i K a w := by
  unfold wpOp
  rw [show l.toArray[i]? = some o by simpa using ho]
  dsimp only
  rw [if_pos (by unfold Region.wanted; rw [hg])]
  exact .inl (by unfold Oper.wp; rw [hr]; exact h)
theorem Agree.ev {l : List Oper} {L : Nat → Bool} {V : Nat → Value} {a0 a : Act} (h : Agree l L V a0 a) {j k : Nat} {o : Oper} (ho : l[j]? = some o) (hk : o.dst = some k) (hl : L j = true) : a.tmps[k]?.getD undef = V j := by
  rw [h.hit j o k ho hk hl]; rfl
theorem Agree.ev0 {l : List Oper} {L : Nat → Bool} {V : Nat → Value} {a0 a : Act} (h : Agree l L V a0 a) {k : Nat} {v : Value} (hno : (l.all fun o => !(o.dst == some k)) = true) (hv : a0.tmps[k]? = some v) : a.tmps[k]?.getD undef = v := by
  rw [h.miss k (fun j o ho hk => ?_), hv]
  · rfl
  · have := List.all_eq_true.1 hno o (List.mem_of_getElem? ho)
    rw [hk] at this
    simp at this
end
end Go.Proofs.Ytdkmomdioiipjaa
