/- Contracts of functions that the law calls, and what they lean on (a part). -/
import Derived.Sort.Defs
import Derived.Shelf.SlSortCmp.KitK
import Derived.WalkLawsBesides
import Derived.BigRegion
import Derived.Test.YtdkmomdioiipjaaCmy11
namespace Go.Proofs.Ytdkmomdioiipjaa
section
open Go.RowKit
open Go.RowKit Go.Sort
set_option linter.unusedVariables false
set_option maxRecDepth 100000
def ltS (s t : ByteArray) : Bool := Op.bytesLess s.toList t.toList
theorem ltS_eq (s t : ByteArray) : ltS s t = decide (s.toList < t.toList) := bytesLess_eq _ _
theorem toListB_inj {s t : ByteArray} (h : s.toList = t.toList) : s = t := by
  rw [toList_eq, toList_eq] at h
  cases s; cases t
  simp only at h
  congr 1
  exact Array.toList_inj.1 h
theorem ltS_irrefl (s : ByteArray) : ltS s s = false := by
  rw [ltS_eq]; exact decide_eq_false (List.lt_irrefl _)
theorem ltS_trans {s t u : ByteArray} (h1 : ltS s t = true) (h2 : ltS t u = true) : ltS s u = true := by
  rw [ltS_eq] at *
  exact decide_eq_true (List.lt_trans (of_decide_eq_true h1) (of_decide_eq_true h2))
theorem ltS_asymm {s t : ByteArray} (h1 : ltS s t = true) : ltS t s = false := by
  cases h : ltS t s with
  | false => rfl
  | true => have := ltS_trans h1 h; rw [ltS_irrefl] at this; cases this
theorem ltS_eq_of {s t : ByteArray} (h1 : ltS s t = false) (h2 : ltS t s = false) : s = t := by
  rw [ltS_eq] at *
  have a := of_decide_eq_false h1
  have b := of_decide_eq_false h2
  exact toListB_inj (List.le_antisymm (List.not_lt.1 b) (List.not_lt.1 a))
theorem ltS_le_trans {a b c : ByteArray} (h1 : ltS b a = false) (h2 : ltS c b = false) : ltS c a = false := by
  cases h : ltS c a with
  | false => rfl
  | true =>
    cases h3 : ltS a b with
    | true => have := ltS_trans h h3; rw [h2] at this; cases this
    | false =>
      have := ltS_eq_of h3 h1
      subst this
      rw [h] at h2; cases h2
theorem ltS_lt_le {a b c : ByteArray} (h1 : ltS a b = true) (h2 : ltS c b = false) : ltS a c = true := by
  cases h : ltS a c with
  | true => rfl
  | false =>
    have h3 : ltS a b = false := ltS_le_trans h2 h
    rw [h1] at h3; cases h3
theorem ltS_le_lt {a b c : ByteArray} (h1 : ltS b a = false) (h2 : ltS b c = true) : ltS a c = true := by
  cases h : ltS a c with
  | true => rfl
  | false =>
    have h3 := ltS_le_trans h h1
    rw [h2] at h3; cases h3
section
variable {α : Type} (key : α → ByteArray)
def Srt (l : List α) : Prop := l.Pairwise (fun a b => ltS (key b) (key a) = false)
def Stb (l l' : List α) : Prop := ∀ k, l'.filter (fun a => decide (key a = k)) = l.filter (fun a => decide (key a = k))
variable {key}
theorem Stb.refl (l : List α) : Stb key l l := fun _ => rfl
theorem Stb.trans {a b c : List α} (h1 : Stb key a b) (h2 : Stb key b c) : Stb key a c := fun k => (h2 k).trans (h1 k)
theorem Stb.app {a a' b b' : List α} (h1 : Stb key a a') (h2 : Stb key b b') : Stb key (a ++ b) (a' ++ b') := fun k => by
  rw [List.filter_append, List.filter_append, h1 k, h2 k]
theorem Stb.mem {a a' : List α} (h : Stb key a a') (x : α) : x ∈ a' ↔ x ∈ a := by
  have e := h (key x)
  have h1 : x ∈ a'.filter (fun a => decide (key a = key x)) ↔ x ∈ a' := by simp
  have h2 : x ∈ a.filter (fun b => decide (key b = key x)) ↔ x ∈ a := by simp
  rw [← h1, ← h2, e]
theorem len_parts (p : α → Bool) : ∀ l : List α, l.length = (l.filter p).length + (l.filter (fun a => !p a)).length
  | [] => rfl
  | x :: xs => by
    have := len_parts p xs
    cases h : p x <;> simp [h] <;> omega
theorem Stb.lenN : ∀ (n : Nat) (a a' : List α), a.length ≤ n → Stb key a a' → a'.length = a.length
  | n, [], a', _, h => by
    rcases a' with _ | ⟨x, xs⟩
    · rfl
    · have := (h.mem x).1 (by simp)
      cases this
  | 0, x :: xs, a', hn, h => by simp at hn
  | n + 1, x :: xs, a', hn, h => by
    have h2 : Stb key ((x :: xs).filter (fun a => !decide (key a = key x))) (a'.filter (fun a => !decide (key a = key x))) := fun k => by
      have := h k
      rw [List.filter_filter, List.filter_filter]
      have c : ∀ l : List α, l.filter (fun a => decide (key a = k) && !decide (key a = key x)) = (l.filter (fun a => decide (key a = k))).filter (fun a => !decide (key a = key x)) := fun l => by
        rw [List.filter_filter]; congr 1; funext a; rw [Bool.and_comm]
      rw [c, c, this]
    have h3 := Stb.lenN n _ _ (by
      have : ((x :: xs).filter (fun a => !decide (key a = key x))) = xs.filter (fun a => !decide (key a = key x)) := by simp
      rw [this]
      have := List.length_filter_le (fun a => !decide (key a = key x)) xs
      simp at hn; omega) h2
    rw [len_parts (fun a => decide (key a = key x)) a', len_parts (fun a => decide (key a = key x)) (x :: xs), h (key x), h3]
theorem Stb.len {a a' : List α} (h : Stb key a a') : a'.length = a.length := Stb.lenN _ a a' (Nat.le_refl _) h
theorem Stb.swap {U V : List α} (h : ∀ u ∈ U, ∀ v ∈ V, key u ≠ key v) : Stb key (U ++ V) (V ++ U) := fun k => by
  rw [List.filter_append, List.filter_append]
  by_cases hu : ∃ u ∈ U, key u = k
  · obtain ⟨u, hu, rfl⟩ := hu
    have : V.filter (fun a => decide (key a = key u)) = [] := by
      rw [List.filter_eq_nil_iff]
      intro v hv
      simp only [decide_eq_true_eq]
      exact fun e => h u hu v hv e.symm
    rw [this]; simp
  · have : U.filter (fun a => decide (key a = k)) = [] := by
      rw [List.filter_eq_nil_iff]
      intro u hu2
      simp only [decide_eq_true_eq]
      exact fun e => hu ⟨u, hu2, e⟩
    rw [this]; simp
theorem Srt.app {A B : List α} : Srt key (A ++ B) ↔ Srt key A ∧ Srt key B ∧ ∀ a ∈ A, ∀ b ∈ B, ltS (key b) (key a) = false := by
  unfold Srt; rw [List.pairwise_append]
theorem Srt.nil : Srt key ([] : List α) := List.Pairwise.nil
theorem Srt.one (x : α) : Srt key [x] := by unfold Srt; simp
theorem Srt.cons {x : α} {B : List α} : Srt key (x :: B) ↔ (∀ b ∈ B, ltS (key b) (key x) = false) ∧ Srt key B := by
  unfold Srt; rw [List.pairwise_cons]
/-- Two rows that rise, parted so that they may be merged part by part. -/
theorem merge_parts {U1 U2 V1 V2 N1 N2 : List α} (hU : Srt key (U1 ++ U2)) (hV : Srt key (V1 ++ V2)) (h1 : ∀ u ∈ U2, ∀ v ∈ V1, ltS (key v) (key u) = true) (h2 : ∀ u ∈ U1, ∀ v ∈ V2, ltS (key v) (key u) = false)
    (s1 : Srt key N1) (s2 : Srt key N2) (t1 : Stb key (U1 ++ V1) N1) (t2 : Stb key (U2 ++ V2) N2) : Srt key (N1 ++ N2) ∧ Stb key ((U1 ++ U2) ++ (V1 ++ V2)) (N1 ++ N2) := by
  constructor
  · rw [Srt.app]
    refine ⟨s1, s2, fun a ha b hb => ?_⟩
    rw [Srt.app] at hU hV
    rcases List.mem_append.1 ((t1.mem a).1 ha) with ha | ha <;> rcases List.mem_append.1 ((t2.mem b).1 hb) with hb | hb
    · exact hU.2.2 a ha b hb
    · exact h2 a ha b hb
    · exact ltS_asymm (h1 b hb a ha)
    · exact hV.2.2 a ha b hb
  · have e : Stb key (U2 ++ V1) (V1 ++ U2) := Stb.swap fun u hu v hv e => by
      have := h1 u hu v hv
      rw [e, ltS_irrefl] at this; cases this
    have e1 : Stb key (U1 ++ ((U2 ++ V1) ++ V2)) (U1 ++ ((V1 ++ U2) ++ V2)) := (Stb.refl U1).app (e.app (Stb.refl V2))
    have e2 := t1.app t2
    have a1 : (U1 ++ U2) ++ (V1 ++ V2) = U1 ++ ((U2 ++ V1) ++ V2) := by simp [List.append_assoc]
    have a2 : U1 ++ ((V1 ++ U2) ++ V2) = (U1 ++ V1) ++ (U2 ++ V2) := by simp [List.append_assoc]
    rw [a1]
    rw [a2] at e1
    exact e1.trans e2
theorem merge_left {u : α} {V1 V2 : List α} (hV : Srt key (V1 ++ V2)) (h1 : ∀ v ∈ V1, ltS (key v) (key u) = true) (h2 : ∀ v ∈ V2, ltS (key v) (key u) = false) : Srt key (V1 ++ u :: V2) ∧ Stb key ([u] ++ (V1 ++ V2)) (V1 ++ u :: V2) := by
  have := merge_parts (U1 := []) (U2 := [u]) (V1 := V1) (V2 := V2) (N1 := V1) (N2 := u :: V2) (by simpa using Srt.one u) hV (fun u' hu v hv => by simp at hu; subst hu; exact h1 v hv) (fun u' hu => by cases hu)
    (Srt.app.1 hV).1 (Srt.cons.2 ⟨h2, (Srt.app.1 hV).2.1⟩) (Stb.refl _) (Stb.refl _)
  simpa using this
theorem merge_right {v : α} {U1 U2 : List α} (hU : Srt key (U1 ++ U2)) (h1 : ∀ u ∈ U1, ltS (key v) (key u) = false) (h2 : ∀ u ∈ U2, ltS (key v) (key u) = true) : Srt key (U1 ++ v :: U2) ∧ Stb key ((U1 ++ U2) ++ [v]) (U1 ++ v :: U2) := by
  have s1 : Srt key (U1 ++ [v]) := Srt.app.2 ⟨(Srt.app.1 hU).1, Srt.one v, fun a ha b hb => by simp at hb; subst hb; exact h1 a ha⟩
  have := merge_parts (U1 := U1) (U2 := U2) (V1 := [v]) (V2 := []) (N1 := U1 ++ [v]) (N2 := U2) hU (by simpa using Srt.one v) (fun u hu v' hv => by simp at hv; subst hv; exact h2 u hu) (fun u _ v' hv => by cases hv)
    s1 (Srt.app.1 hU).2.1 (Stb.refl _) (by simpa using Stb.refl (key := key) U2)
  simpa using this
end
section
variable {α : Type} [Inhabited α]
open Go.Sort
/-- The element at a place of a row that is known in parts. -/
theorem at_split (d : Array α) (A : List α) (x : α) (B : List α) (h : d.toList = A ++ x :: B) : d[A.length]! = x := by
  have hs : A.length < d.size := by rw [← Array.length_toList, h]; simp
  rw [getElem!_pos d _ hs, ← Array.getElem_toList]
  simp [h]
theorem swp_split (d : Array α) (A B C : List α) (x y : α) (h : d.toList = A ++ x :: (B ++ y :: C)) : (swp d A.length (A.length + 1 + B.length)).toList = A ++ y :: (B ++ x :: C) := by
  have hx := at_split d A x _ h
  have hy : d[A.length + 1 + B.length]! = y := by
    have := at_split d (A ++ x :: B) y C (by simp [h])
    rw [show (A ++ x :: B).length = A.length + 1 + B.length by simp; omega] at this
    exact this
  unfold swp
  rw [hx, hy, Array.toList_setIfInBounds, Array.toList_setIfInBounds, h]
  simp [List.set_append, show ¬ A.length + 1 + B.length < A.length by omega, show A.length + 1 + B.length - A.length = B.length + 1 by omega]
theorem swp_split2 (d : Array α) (A B C : List α) (x y : α) (h : d.toList = A ++ x :: (B ++ y :: C)) : (swp d (A.length + 1 + B.length) A.length).toList = A ++ y :: (B ++ x :: C) := by
  have hx := at_split d A x _ h
  have hy : d[A.length + 1 + B.length]! = y := by
    have := at_split d (A ++ x :: B) y C (by simp [h])
    rw [show (A ++ x :: B).length = A.length + 1 + B.length by simp; omega] at this
    exact this
  unfold swp
  rw [hx, hy, Array.toList_setIfInBounds, Array.toList_setIfInBounds, h]
  simp [List.set_append, show ¬ A.length + 1 + B.length < A.length by omega, show A.length + 1 + B.length - A.length = B.length + 1 by omega]
omit [Inhabited α] in
theorem size_split (d : Array α) (L : List α) (h : d.toList = L) : d.size = L.length := by rw [← h]; simp
end
/-- An entry as six cells, and the object that it reads as. -/
structure Rw where
  s : ByteArray
  x : Ob
  k : Int
  n : Int
  A2 : Option Addr
  m2 : Nat
  c2 : Nat
  A3 : Option Addr
  m3 : Nat
  c3 : Nat
  A4 : Option Addr
  m4 : Nat
  c4 : Nat
instance : Inhabited Rw := ⟨⟨⟨#[]⟩, .mk 0 0 [] .nil .nil, 0, 0, none, 0, 0, none, 0, 0, none, 0, 0⟩⟩
def encR (r : Rw) : List Value := [.string r.s, .int .i64 r.k, .int .i64 r.n, .slice r.A2 r.m2 r.c2, .slice r.A3 r.m3 r.c3, .slice r.A4 r.m4 r.c4]
theorem encR_len (r : Rw) : (encR r).length = 6 := rfl
theorem encR_one (r : Rw) : ∀ v ∈ encR r, v.oneCell' = true := by
  intro v hv
  unfold encR at hv
  simp only [List.mem_cons, List.not_mem_nil, or_false] at hv
  rcases hv with rfl | rfl | rfl | rfl | rfl | rfl <;> rfl
def cmpZ (s t : ByteArray) : Int := if ltS s t = true then -1 else if ltS t s = true then 1 else 0
def cfR (r q : Rw) : Int := cmpZ r.s q.s
theorem cmpZ_neg (s t : ByteArray) : decide (cmpZ s t < 0) = ltS s t := by
  unfold cmpZ
  cases h : ltS s t <;> simp
  split <;> omega
theorem run_gtS (s t : ByteArray) (W : World) : (binOp BinOp.gtr 9 (.string s) (.string t)).run Try.prog W = .ok (.bool (!(Op.bytesLess s.toList t.toList || s.toList == t.toList))) W := by kernel_rfl
/-- A world with draws and new blocks behind it. -/
def Grw (w w' : World) : Prop := ∃ q os, w' = grow (w.drewN q) os
theorem Grw.refl (w : World) : Grw w w := ⟨0, #[], by rw [grow_empty]; rfl⟩
theorem Grw.alloc {w w' : World} (h : Grw w w') (o : Obj) : Grw w (w'.alloc o) := by
  obtain ⟨q, os, rfl⟩ := h
  exact ⟨q, os ++ #[o], by rw [alloc_eq_grow, grow_grow]⟩
theorem Grw.trans {a b c : World} (h1 : Grw a b) (h2 : Grw b c) : Grw a c := by
  obtain ⟨q, os, rfl⟩ := h1
  obtain ⟨q2, os2, rfl⟩ := h2
  exact ⟨q + q2, os ++ os2, by show grow (grow ((a.drewN q).drewN q2) os) os2 = _; rw [grow_grow, World.drewN_drewN]⟩
theorem Grw.below {w w' : World} (h : Grw w w') : Below w.heap.size w w' := by
  obtain ⟨q, os, rfl⟩ := h
  exact ⟨rfl, rfl, rfl, by rw [size_grow]; exact Nat.le_add_right _ _, fun k hk => heap_grow_old _ os hk⟩
theorem isNaNC (s : ByteArray) (w : World) : Calls Try.prog 87 #[.string s] w fun e w' => e = .returned (.bool false) ∧ w = w' := by
  go_enter Try.func87, Try.ntmps87
  go_wp2
  go_ret
  exact ⟨by simp, rfl⟩
theorem compareC (s t : ByteArray) (w : World) : Calls Try.prog 76 #[.string s, .string t] w fun e w' => e = .returned (.int .i64 (cmpZ s t)) ∧ w = w' := by
  have hgt := run_gtS s t
  cases h : ltS s t with
  | true =>
    have e : cmpZ s t = -1 := by unfold cmpZ; rw [if_pos h]
    rw [e]
    unfold ltS at h
    clear e
    go_enter Try.func76, Try.ntmps76
    go_wp2_with (go_at_call 87; refine (isNaNC _ _).mono ?_; rintro e w' ⟨rfl, rfl⟩)
    go_ret
    exact ⟨rfl, rfl⟩
  | false =>
    cases h2 : ltS t s with
    | true =>
      have e : cmpZ s t = 1 := by unfold cmpZ; rw [if_neg (by rw [h]; simp), if_pos h2]
      have hne : (s.toList == t.toList) = false := str_ne (by rintro rfl; rw [ltS_irrefl] at h2; cases h2)
      rw [e]
      unfold ltS at h
      rw [h, hne] at hgt
      clear e h2
      go_enter Try.func76, Try.ntmps76
      go_wp2_with (go_at_call 87; refine (isNaNC _ _).mono ?_; rintro e w' ⟨rfl, rfl⟩)
      go_ret
      exact ⟨rfl, rfl⟩
    | false =>
      have e : cmpZ s t = 0 := by unfold cmpZ; rw [if_neg (by rw [h]; simp), if_neg (by rw [h2]; simp)]
      have heq := ltS_eq_of h h2
      rw [e]
      unfold ltS at h
      have hbe : (s.toList == t.toList) = true := by rw [heq]; simp
      rw [h, hbe] at hgt
      clear e h2 heq
      go_enter Try.func76, Try.ntmps76
      go_wp2_with (go_at_call 87; refine (isNaNC _ _).mono ?_; rintro e w' ⟨rfl, rfl⟩)
      go_ret
      exact ⟨rfl, rfl⟩
theorem keyOfC (s : ByteArray) (c0 c1 c2 c3 c4 : Value) (w : World) : Calls Try.prog 51 #[.agg #[.string s, c0, c1, c2, c3, c4]] w fun e w' => e = .returned (.string s) ∧ ∃ q os, w' = grow (w.drewN q) os := by
  go_enter Try.func51, Try.ntmps51
  go_wp2
  go_ret
  exact ⟨rfl, (Grw.refl w).alloc _⟩
/-- The comparison that rising hands to the sort: B is the box of keyOf. -/
theorem risingC (s t : ByteArray) (c0 c1 c2 c3 c4 d0 d1 d2 d3 d4 : Value) (B : Nat) (w : World) (hB : B < w.heap.size) (hb : w.cell? ⟨B, 0, none⟩ = some (.func (.func 51) #[] #[])) :
    Calls Try.prog 75 #[.agg #[.string s, c0, c1, c2, c3, c4], .agg #[.string t, d0, d1, d2, d3, d4], .pointer (some ⟨B, 0, none⟩)] w fun e w' => e = .returned (.int .i64 (cmpZ s t)) ∧ ∃ q os, w' = grow (w.drewN q) os := by
  go_enter Try.func75, Try.ntmps75
  go_wp2_with fail
  have hg : Grw w ((w.alloc (.cells #[.string s, c0, c1, c2, c3, c4] 32)).alloc (.cells #[.string t, d0, d1, d2, d3, d4] 32)) := ((Grw.refl w).alloc _).alloc _
  have h1 := heap_alloc_new w (.cells #[.string s, c0, c1, c2, c3, c4] 32)
  have h2 := heap_alloc_new (w.alloc (.cells #[.string s, c0, c1, c2, c3, c4] 32)) (.cells #[.string t, d0, d1, d2, d3, d4] 32)
  have h3 := ((Below.refl (w.alloc (.cells #[.string s, c0, c1, c2, c3, c4] 32)).heap.size _).alloc (Nat.le_refl _) (.cells #[.string t, d0, d1, d2, d3, d4] 32)).block w.heap.size (by simp)
  rw [h1] at h3
  rw [World.size_alloc] at h2
  have hsz : ((w.alloc (.cells #[.string s, c0, c1, c2, c3, c4] 32)).alloc (.cells #[.string t, d0, d1, d2, d3, d4] 32)).heap.size = w.heap.size + 2 := by simp
  generalize ((w.alloc (.cells #[.string s, c0, c1, c2, c3, c4] 32)).alloc (.cells #[.string t, d0, d1, d2, d3, d4] 32)) = W at *
  have key : ∀ n os, (grow (W.drewN n) os).cell? ⟨B, 0, none⟩ = some (.func (.func 51) #[] #[]) ∧
      ((grow (W.drewN n) os).cell? ⟨w.heap.size, 0, none⟩ = some (.string s) ∧ (grow (W.drewN n) os).cell? ⟨w.heap.size, 1, none⟩ = some c0 ∧ (grow (W.drewN n) os).cell? ⟨w.heap.size, 2, none⟩ = some c1 ∧ (grow (W.drewN n) os).cell? ⟨w.heap.size, 3, none⟩ = some c2 ∧ (grow (W.drewN n) os).cell? ⟨w.heap.size, 4, none⟩ = some c3 ∧ (grow (W.drewN n) os).cell? ⟨w.heap.size, 5, none⟩ = some c4) ∧
      ((grow (W.drewN n) os).cell? ⟨w.heap.size + 1, 0, none⟩ = some (.string t) ∧ (grow (W.drewN n) os).cell? ⟨w.heap.size + 1, 1, none⟩ = some d0 ∧ (grow (W.drewN n) os).cell? ⟨w.heap.size + 1, 2, none⟩ = some d1 ∧ (grow (W.drewN n) os).cell? ⟨w.heap.size + 1, 3, none⟩ = some d2 ∧ (grow (W.drewN n) os).cell? ⟨w.heap.size + 1, 4, none⟩ = some d3 ∧ (grow (W.drewN n) os).cell? ⟨w.heap.size + 1, 5, none⟩ = some d4) := fun n os => by
    have e1 := (heap_grow_old (W.drewN n) os (k := w.heap.size) (by show w.heap.size < W.heap.size; omega)).trans h3
    have e2 := (heap_grow_old (W.drewN n) os (k := w.heap.size + 1) (by show w.heap.size + 1 < W.heap.size; omega)).trans h2
    refine ⟨?_, ⟨cell_of_row _ _ 0 _ _ (0, 0) e1, cell_of_row _ _ 1 _ _ (0, 0) e1, cell_of_row _ _ 2 _ _ (0, 0) e1, cell_of_row _ _ 3 _ _ (0, 0) e1, cell_of_row _ _ 4 _ _ (0, 0) e1, cell_of_row _ _ 5 _ _ (0, 0) e1⟩, cell_of_row _ _ 0 _ _ (0, 0) e2, cell_of_row _ _ 1 _ _ (0, 0) e2, cell_of_row _ _ 2 _ _ (0, 0) e2, cell_of_row _ _ 3 _ _ (0, 0) e2, cell_of_row _ _ 4 _ _ (0, 0) e2, cell_of_row _ _ 5 _ _ (0, 0) e2⟩
    exact cell_grown (show B < W.heap.size by omega) ((World.cell?_of_block (hg.below.block B hB)).trans hb) n os
  have k0 := fun n os => (key n os).1
  have k1 := fun n os => (key n os).2.1.1
  have k2 := fun n os => (key n os).2.1.2.1
  have k3 := fun n os => (key n os).2.1.2.2.1
  have k4 := fun n os => (key n os).2.1.2.2.2.1
  have k5 := fun n os => (key n os).2.1.2.2.2.2.1
  have k6 := fun n os => (key n os).2.1.2.2.2.2.2
  have l1 := fun n os => (key n os).2.2.1
  have l2 := fun n os => (key n os).2.2.2.1
  have l3 := fun n os => (key n os).2.2.2.2.1
  have l4 := fun n os => (key n os).2.2.2.2.2.1
  have l5 := fun n os => (key n os).2.2.2.2.2.2.1
  have l6 := fun n os => (key n os).2.2.2.2.2.2.2
  have HG := Lib.hid hg
  have mixed : Try.prog.follows .mixedOrders = true := by kernel_rfl
  clear key h1 h2 h3 hsz hg hb hB
  go_quiet_grown (first | (go_at_call 51; refine Calls.grown_of (keyOfC _ _ _ _ _ _ _)) | (go_at_call 76; refine Calls.grown_of ((compareC _ _ _).mono fun _ _ ⟨h1, h2⟩ => ⟨h1, h2 ▸ Grw.refl _⟩)))
  go_wp2
  go_ret
  exact ⟨rfl, HG.out.trans ⟨_, _, rfl⟩⟩
abbrev SW6 (w0 : World) (blk off : Nat) (dk : Array Rw) (W : World) : Prop := SWK encR 6 w0 blk off dk W
abbrev RW6 (w0 : World) (blk off : Nat) (d0 : Array Rw) : Prop := RowK encR 6 w0 blk off d0
theorem SW6.holds {w0 W : World} {blk off : Nat} {d0 dk : Array Rw} (h : SW6 w0 blk off dk W) (R : RW6 w0 blk off d0) (hs : dk.size = d0.size) : HoldsK encR 6 W blk off dk := SWK.holds h R.hblk R.hH hs
theorem SW6.cells {w0 W : World} {blk off : Nat} {d0 dk : Array Rw} (h : SW6 w0 blk off dk W) (R : RW6 w0 blk off d0) (hs : dk.size = d0.size) (i : Nat) (hi : i < dk.size) (x : Rw) (hx : dk[i]! = x) :
    (W.cell? ⟨blk, off + i * 6, none⟩ = some (.string x.s) ∧ W.cell? ⟨blk, off + i * 6 + 1, none⟩ = some (.int .i64 x.k) ∧ W.cell? ⟨blk, off + i * 6 + 2, none⟩ = some (.int .i64 x.n) ∧ W.cell? ⟨blk, off + i * 6 + 3, none⟩ = some (.slice x.A2 x.m2 x.c2) ∧ W.cell? ⟨blk, off + i * 6 + 4, none⟩ = some (.slice x.A3 x.m3 x.c3) ∧ W.cell? ⟨blk, off + i * 6 + 5, none⟩ = some (.slice x.A4 x.m4 x.c4)) := by
  have H := h.holds R hs
  subst hx
  have e := fun c hc => (H.cell hi (c := c) hc).1
  exact ⟨e 0 (by omega), e 1 (by omega), e 2 (by omega), e 3 (by omega), e 4 (by omega), e 5 (by omega)⟩
theorem SW6.free {w0 W : World} {blk off : Nat} {d0 dk : Array Rw} (h : SW6 w0 blk off dk W) (R : RW6 w0 blk off d0) (hs : dk.size = d0.size) (i : Nat) (hi : i < dk.size) :
    (W.frozen? ⟨blk, off + i * 6, none⟩ = false ∧ W.frozen? ⟨blk, off + i * 6 + 1, none⟩ = false ∧ W.frozen? ⟨blk, off + i * 6 + 2, none⟩ = false ∧ W.frozen? ⟨blk, off + i * 6 + 3, none⟩ = false ∧ W.frozen? ⟨blk, off + i * 6 + 4, none⟩ = false ∧ W.frozen? ⟨blk, off + i * 6 + 5, none⟩ = false) := by
  have H := h.holds R hs
  have e := fun c hc => (H.cell hi (c := c) hc).2
  exact ⟨e 0 (by omega), e 1 (by omega), e 2 (by omega), e 3 (by omega), e 4 (by omega), e 5 (by omega)⟩
theorem take_of_drop {α : Type} {X R : List α} {x : α} {i : Nat} (h : X.drop i = x :: R) : X.take (i + 1) = X.take i ++ [x] := by
  rw [List.take_add, h]; rfl
/-- Behind the exchange of two elements. -/
theorem SW6.swap6 {w0 W : World} {blk off : Nat} {d0 dk : Array Rw} (h : SW6 w0 blk off dk W) (R : RW6 w0 blk off d0) (p q : Nat) (hp : p < dk.size) (hq : q < dk.size) (x y : Rw) (hx : dk[p]! = x) (hy : dk[q]! = y) :
    SW6 w0 blk off (swp dk p q) (((((((((((((W.setCell ⟨blk, off + p * 6, none⟩ (.string y.s)).setCell ⟨blk, off + p * 6 + 1, none⟩ (.int .i64 y.k)).setCell ⟨blk, off + p * 6 + 2, none⟩ (.int .i64 y.n)).setCell ⟨blk, off + p * 6 + 3, none⟩ (.slice y.A2 y.m2 y.c2)).setCell ⟨blk, off + p * 6 + 4, none⟩ (.slice y.A3 y.m3 y.c3)).setCell ⟨blk, off + p * 6 + 5, none⟩ (.slice y.A4 y.m4 y.c4)).setCell ⟨blk, off + q * 6, none⟩ (.string x.s)).setCell ⟨blk, off + q * 6 + 1, none⟩ (.int .i64 x.k)).setCell ⟨blk, off + q * 6 + 2, none⟩ (.int .i64 x.n)).setCell ⟨blk, off + q * 6 + 3, none⟩ (.slice x.A2 x.m2 x.c2)).setCell ⟨blk, off + q * 6 + 4, none⟩ (.slice x.A3 x.m3 x.c3)).setCell ⟨blk, off + q * 6 + 5, none⟩ (.slice x.A4 x.m4 x.c4)).drew) := by
  have := SWK.swapped h R p q hp hq
  rw [hx, hy] at this
  have e : (W.drew.setCells blk (off + p * 6) (encR y)).setCells blk (off + q * 6) (encR x) = ((((((((((((W.setCell ⟨blk, off + p * 6, none⟩ (.string y.s)).setCell ⟨blk, off + p * 6 + 1, none⟩ (.int .i64 y.k)).setCell ⟨blk, off + p * 6 + 2, none⟩ (.int .i64 y.n)).setCell ⟨blk, off + p * 6 + 3, none⟩ (.slice y.A2 y.m2 y.c2)).setCell ⟨blk, off + p * 6 + 4, none⟩ (.slice y.A3 y.m3 y.c3)).setCell ⟨blk, off + p * 6 + 5, none⟩ (.slice y.A4 y.m4 y.c4)).setCell ⟨blk, off + q * 6, none⟩ (.string x.s)).setCell ⟨blk, off + q * 6 + 1, none⟩ (.int .i64 x.k)).setCell ⟨blk, off + q * 6 + 2, none⟩ (.int .i64 x.n)).setCell ⟨blk, off + q * 6 + 3, none⟩ (.slice x.A2 x.m2 x.c2)).setCell ⟨blk, off + q * 6 + 4, none⟩ (.slice x.A3 x.m3 x.c3)).setCell ⟨blk, off + q * 6 + 5, none⟩ (.slice x.A4 x.m4 x.c4)).drew := by
    simp only [encR, World.setCells, World.setCell_drew, Nat.add_assoc, Nat.reduceAdd]
  rw [e] at this
  exact this
theorem wrap_add {a b : Nat} (h : a + b < 4611686018427387904) : IntKind.i64.wrap ((a : Int) + (b : Int)) = (a : Int) + (b : Int) := IntWalk.i64_in _ (by omega)
set_option maxHeartbeats 8000000 in
theorem swapRangeC (w0 : World) (blk off cap a b n : Nat) (d0 d : Array Rw) (f : Value) (w : World) (R : RW6 w0 blk off d0) (hs : d.size = d0.size) (S : SW6 w0 blk off d w) (P X M Y Q : List Rw) (hd : d.toList = P ++ (X ++ (M ++ (Y ++ Q)))) (ha : P.length = a) (hX : X.length = n) (hY : Y.length = n) (hb : a + n + M.length = b) (hsz : d.size < 4611686018427387904) :
    Calls Try.prog 96 #[.slice (some ⟨blk, off, none⟩) d.size cap, .int .i64 a, .int .i64 b, .int .i64 n, f] w fun e w' => e = .returned (.tuple #[]) ∧ ∃ d' : Array Rw, d'.toList = P ++ (Y ++ (M ++ (X ++ Q))) ∧ SW6 w0 blk off d' w' := by
  have hsize : d.size = a + n + M.length + n + Q.length := by rw [size_split d _ hd]; simp; omega
  have S0 := Lib.hid S
  have HS := Lib.hid hs
  have HD := Lib.hid hd
  have HA := Lib.hid ha
  have HX := Lib.hid hX
  have HY := Lib.hid hY
  have HB := Lib.hid hb
  have HZ := Lib.hid hsize
  obtain ⟨N, hN⟩ : ∃ N, d.size = N := ⟨_, rfl⟩
  have HN := Lib.hid hN
  have hNb : a + n ≤ b := by omega
  have hNc : b + n ≤ N := by omega
  rw [hN] at hsz ⊢
  clear S hs hd ha hX hY hb hsize hN
  go_enter Try.func96, Try.ntmps96
  go_wp2
  go_loopw [10] (fun iv wr => ∃ (i : Nat) (dk : Array Rw), i ≤ n ∧ iv = .int .i64 i ∧ Hid (dk.toList = P ++ ((Y.take i ++ X.drop i) ++ (M ++ ((X.take i ++ Y.drop i) ++ Q)))) ∧ Hid (SW6 w0 blk off dk wr)) (fun iv _ => n - (intOf iv).toNat)
  case atStart => exact ⟨0, d, Nat.zero_le _, rfl, Lib.hid (by simpa using HD.out), S0⟩
  case round =>
    clear S0
    obtain ⟨i, dk, hi, rfl, HL, SH⟩ := hrel
    by_cases hlt : i < n
    · have hli : (i : Int) < n := by omega
      obtain ⟨x, hx⟩ : ∃ x, X.drop i = x :: X.drop (i + 1) := ⟨X[i]'(by have := HX.out; omega), List.drop_eq_getElem_cons _⟩
      obtain ⟨y, hy⟩ : ∃ y, Y.drop i = y :: Y.drop (i + 1) := ⟨Y[i]'(by have := HY.out; omega), List.drop_eq_getElem_cons _⟩
      have hsz2 : dk.size = N := by
        have h1 := size_split dk _ HL.out
        have := HX.out; have := HY.out; have := HZ.out; have := HN.out; have := HA.out
        simp at h1; omega
      have hdl : dk.toList = (P ++ Y.take i) ++ x :: ((X.drop (i + 1) ++ (M ++ X.take i)) ++ y :: (Y.drop (i + 1) ++ Q)) := by
        rw [HL.out, hx, hy]; simp [List.append_assoc]
      have l1 : (P ++ Y.take i).length = a + i := by have := HY.out; have := HA.out; simp; omega
      have l2 : (P ++ Y.take i).length + 1 + (X.drop (i + 1) ++ (M ++ X.take i)).length = b + i := by have := HX.out; have := HY.out; have := HA.out; have := HB.out; simp; omega
      have hgx := at_split dk _ _ _ hdl
      have hgy : dk[b + i]! = y := by
        have := at_split dk ((P ++ Y.take i) ++ x :: (X.drop (i + 1) ++ (M ++ X.take i))) y (Y.drop (i + 1) ++ Q) (by rw [hdl]; simp [List.append_assoc])
        rw [← l2, ← this]; congr 1; simp; omega
      rw [l1] at hgx
      have hsw := swp_split dk _ _ _ _ _ hdl
      rw [l1] at l2
      rw [l1, l2] at hsw
      obtain ⟨p, hp⟩ : ∃ p, a + i = p := ⟨_, rfl⟩
      obtain ⟨q, hq⟩ : ∃ q, b + i = q := ⟨_, rfl⟩
      have hpq : p < N ∧ q < N ∧ p ≠ q := by omega
      have w1 := wrap_add (a := a) (b := i) (by omega)
      have w2 := wrap_add (a := b) (b := i) (by omega)
      have w3 : ((a : Int) + i).toNat = p := by omega
      have w4 : ((b : Int) + i).toNat = q := by omega
      have w5 : (a : Int) + i < N := by omega
      have w6 : (b : Int) + i < N := by omega
      have w7 : (0 : Int) ≤ (a : Int) + i := by omega
      have w8 : (0 : Int) ≤ (b : Int) + i := by omega
      rw [hp] at hgx hsw
      rw [hq] at hgy hsw
      have SS : SW6 w0 blk off dk wr := SH.out
      obtain ⟨x0, x1, x2, x3, x4, x5⟩ := SS.cells R (by rw [hsz2, ← HN.out]; exact HS.out) p (by omega) x hgx
      obtain ⟨y0, y1, y2, y3, y4, y5⟩ := SS.cells R (by rw [hsz2, ← HN.out]; exact HS.out) q (by omega) y hgy
      obtain ⟨f0, f1, f2, f3, f4, f5⟩ := SS.free R (by rw [hsz2, ← HN.out]; exact HS.out) p (by omega)
      obtain ⟨g0, g1, g2, g3, g4, g5⟩ := SS.free R (by rw [hsz2, ← HN.out]; exact HS.out) q (by omega)
      have HSW := Lib.hid (SW6.swap6 SH.out R p q (by omega) (by omega) x y hgx hgy)
      have HLS := Lib.hid hsw
      have HPQ := Lib.hid hpq
      have HX2 := Lib.hid hx
      have HY2 := Lib.hid hy
      have HP := Lib.hid hp
      have HQ := Lib.hid hq
      clear hx hy hsz2 hdl l1 l2 hgx hgy hsw hp hq hpq SS
      go_wp2_with fail
      go_big_region
      all_goals
        go_wp2
        go_roundw
        case rel =>
          refine ⟨i + 1, swp dk p q, by omega, by go_num, Lib.hid ?_, ?_⟩
          · rw [HLS.out, take_of_drop HX2.out, take_of_drop HY2.out]; simp [List.append_assoc]
          · with_reducible exact HSW
        case measure => simp [intOf]; omega
    · obtain rfl : n = i := by omega
      go_wp2
      go_end0
      exact ⟨rfl, dk, by
        rw [HL.out, List.take_of_length_le (by have := HY.out; omega), List.take_of_length_le (by have := HX.out; omega), List.drop_eq_nil_of_le (by have := HX.out; omega), List.drop_eq_nil_of_le (by have := HY.out; omega)]; simp, SH.out⟩
theorem swapRangeI (w0 : World) (blk off cap a b n : Nat) (az bz nz : Int) (haz : az = a) (hbz : bz = b) (hnz : nz = n) (d0 d : Array Rw) (f : Value) (N : Nat) (w : World) (R : RW6 w0 blk off d0) (hs : d.size = d0.size) (hN : d.size = N) (S : SW6 w0 blk off d w) (P X M Y Q : List Rw) (hd : d.toList = P ++ (X ++ (M ++ (Y ++ Q)))) (ha : P.length = a) (hX : X.length = n) (hY : Y.length = n) (hb : a + n + M.length = b) (hsz : d.size < 4611686018427387904) :
    Calls Try.prog 96 #[.slice (some ⟨blk, off, none⟩) N cap, .int .i64 az, .int .i64 bz, .int .i64 nz, f] w fun e w' => e = .returned (.tuple #[]) ∧ ∃ d' : Array Rw, d'.toList = P ++ (Y ++ (M ++ (X ++ Q))) ∧ d'.size = N ∧ SW6 w0 blk off d' w' := by
  subst haz hbz hnz hN
  refine (swapRangeC w0 blk off cap a b n d0 d f w R hs S P X M Y Q hd ha hX hY hb hsz).mono ?_
  rintro r w' ⟨e, d', h1, h2⟩
  refine ⟨e, d', h1, ?_, h2⟩
  rw [size_split d _ hd, size_split d' _ h1]
  simp; omega
set_option maxHeartbeats 8000000 in
theorem rotateC (w0 : World) (blk off cap a m b : Nat) (d0 d : Array Rw) (f : Value) (N : Nat) (w : World) (R : RW6 w0 blk off d0) (hs : d.size = d0.size) (hN : d.size = N) (S : SW6 w0 blk off d w) (P U V Q : List Rw) (hd : d.toList = P ++ (U ++ (V ++ Q))) (ha : P.length = a) (hU : a + U.length = m) (hV : m + V.length = b) (hu0 : 0 < U.length) (hv0 : 0 < V.length) (hsz : d.size < 4611686018427387904) :
    Calls Try.prog 94 #[.slice (some ⟨blk, off, none⟩) N cap, .int .i64 a, .int .i64 m, .int .i64 b, f] w fun e w' => e = .returned (.tuple #[]) ∧ ∃ d' : Array Rw, d'.toList = P ++ (V ++ (U ++ Q)) ∧ d'.size = N ∧ SW6 w0 blk off d' w' := by
  have hbN : b ≤ N := by
    have := size_split d _ hd
    simp at this; omega
  have HN := Lib.hid hN
  rw [hN] at hsz hs
  have S0 := Lib.hid S
  have HD := Lib.hid hd
  have HS := Lib.hid hs
  have HA := Lib.hid ha
  obtain ⟨i0, hi0⟩ : ∃ i0, U.length = i0 := ⟨_, rfl⟩
  obtain ⟨j0, hj0⟩ : ∃ j0, V.length = j0 := ⟨_, rfl⟩
  rw [hi0] at hU hu0
  rw [hj0] at hV hv0
  have HI := Lib.hid hi0
  have HJ := Lib.hid hj0
  have e1 : (m : Int) - (a : Int) = i0 := by omega
  have e2 : (b : Int) - (m : Int) = j0 := by omega
  have HU := Lib.hid hU
  have HV := Lib.hid hV
  have hma : a ≤ m := by omega
  have hmb : m ≤ b := by omega
  clear S hs hN hd ha hi0 hj0 hU hV
  go_enter Try.func94, Try.ntmps94
  go_wp2
  clear e1 e2
  go_loopw [10, 11] (fun iv jv wr => ∃ (i j : Nat) (pre U1 V1 post : List Rw) (dk : Array Rw), iv = .int .i64 i ∧ jv = .int .i64 j ∧ 0 < i ∧ 0 < j ∧ i ≤ m ∧ m + j ≤ b ∧ Hid (pre.length + i = m) ∧ Hid (U1.length = i) ∧ Hid (V1.length = j) ∧ Hid (pre ++ (V1 ++ (U1 ++ post)) = P ++ (V ++ (U ++ Q))) ∧ Hid (dk.toList = pre ++ (U1 ++ (V1 ++ post))) ∧ Hid (dk.size = N) ∧ Hid (SW6 w0 blk off dk wr)) (fun iv jv _ => (intOf iv).toNat + (intOf jv).toNat)
  case atStart => exact ⟨i0, j0, P, U, V, Q, d, rfl, rfl, hu0, hv0, by have := HU.out; omega, by have := HV.out; omega, Lib.hid (by have := HA.out; have := HU.out; omega), HI, HJ, Lib.hid rfl, HD, HN, S0⟩
  case round =>
    clear S0
    obtain ⟨i, j, pre, U1, V1, post, dk, rfl, rfl, hi, hj, him, hjb, HP, HU1, HV1, HG, HL, HZ, SH⟩ := hrel
    rcases Nat.lt_trichotomy i j with hij | hij | hij
    · have hne : ((i : Int) != (j : Int)) = true := by simp; omega
      have hgt : ¬ (j : Int) < (i : Int) := by omega
      obtain ⟨Va, Vb, hV1, hVb⟩ : ∃ Va Vb, V1 = Va ++ Vb ∧ Vb.length = i := ⟨V1.take (j - i), V1.drop (j - i), (List.take_append_drop _ _).symm, by have := HV1.out; simp; omega⟩
      have hVa : Va.length = j - i := by have := HV1.out; rw [hV1] at this; simp at this; omega
      have HSR := Lib.hid (swapRangeI w0 blk off cap (m - i) (m + j - i) i ((m : Int) - i) ((m : Int) + j - i) i (by omega) (by omega) rfl d0 dk f N wr R (by rw [HZ.out]; exact HS.out) HZ.out SH.out pre U1 Va Vb post (by rw [HL.out, hV1]; simp [List.append_assoc]) (by have := HP.out; omega) HU1.out hVb (by omega) (by rw [HZ.out]; exact hsz))
      have HG2 : Hid ((pre ++ (Va ++ (Vb ++ (U1 ++ post)))) = P ++ (V ++ (U ++ Q))) := Lib.hid (by rw [← HG.out, hV1]; simp [List.append_assoc])
      have HVA := Lib.hid hVa
      have HVB := Lib.hid hVb
      have hw1 : (m : Int) + j < 4611686018427387904 := by omega
      clear hV1 hVb hVa SH HL HG
      go_wp2_with (go_at_call 96; (with_reducible refine HSR.out.mono ?_); (rintro r w2 ⟨rfl, dk2, hl2, hz2, hs2⟩); have HL2 := Lib.hid hl2; have HS2 := Lib.hid hs2; have HZ2 := Lib.hid hz2; clear hl2 hs2 hz2)
      go_roundw
      case rel => exact ⟨i, j - i, pre, Vb, Va, U1 ++ post, dk2, rfl, int_eq (by omega), hi, by omega, him, by omega, HP, HVB, HVA, Lib.hid (by rw [← HG2.out]), Lib.hid (by rw [HL2.out]), HZ2, HS2⟩
      case measure => simp [intOf]; omega
    · subst hij
      have hne : ((i : Int) != (i : Int)) = false := by simp
      have HSR := Lib.hid (swapRangeI w0 blk off cap (m - i) m i ((m : Int) - i) m i (by omega) rfl rfl d0 dk f N wr R (by rw [HZ.out]; exact HS.out) HZ.out SH.out pre U1 [] V1 post (by rw [HL.out]; simp) (by have := HP.out; omega) HU1.out HV1.out (by simp; omega) (by rw [HZ.out]; exact hsz))
      clear SH HL
      go_wp2_with (go_at_call 96; (with_reducible refine HSR.out.mono ?_); (rintro r w2 ⟨rfl, dk2, hl2, hz2, hs2⟩); have HL2 := Lib.hid hl2; have HS2 := Lib.hid hs2; have HZ2 := Lib.hid hz2; clear hl2 hs2 hz2)
      go_end0
      exact ⟨rfl, dk2, by rw [HL2.out, ← HG.out]; rfl, HZ2.out, HS2.out⟩
    · have hne : ((i : Int) != (j : Int)) = true := by simp; omega
      have hgt : (j : Int) < (i : Int) := by omega
      obtain ⟨Ua, Ub, hU1, hUa⟩ : ∃ Ua Ub, U1 = Ua ++ Ub ∧ Ua.length = j := ⟨U1.take j, U1.drop j, (List.take_append_drop _ _).symm, by have := HU1.out; simp; omega⟩
      have hUb : Ub.length = i - j := by have := HU1.out; rw [hU1] at this; simp at this; omega
      have HSR := Lib.hid (swapRangeI w0 blk off cap (m - i) m j ((m : Int) - i) m j (by omega) rfl rfl d0 dk f N wr R (by rw [HZ.out]; exact HS.out) HZ.out SH.out pre Ua Ub V1 post (by rw [HL.out, hU1]; simp [List.append_assoc]) (by have := HP.out; omega) hUa HV1.out (by omega) (by rw [HZ.out]; exact hsz))
      have HG2 : Hid ((pre ++ (V1 ++ (Ua ++ (Ub ++ post)))) = P ++ (V ++ (U ++ Q))) := Lib.hid (by rw [← HG.out, hU1]; simp [List.append_assoc])
      have HUA := Lib.hid hUa
      have HUB := Lib.hid hUb
      clear hU1 hUb hUa SH HL HG
      go_wp2_with (go_at_call 96; (with_reducible refine HSR.out.mono ?_); (rintro r w2 ⟨rfl, dk2, hl2, hz2, hs2⟩); have HL2 := Lib.hid hl2; have HS2 := Lib.hid hs2; have HZ2 := Lib.hid hz2; clear hl2 hs2 hz2)
      go_roundw
      case rel => exact ⟨i - j, j, pre ++ V1, Ub, Ua, post, dk2, int_eq (by omega), rfl, by omega, hj, by omega, hjb, Lib.hid (by have := HP.out; have := HV1.out; simp; omega), HUB, HUA, Lib.hid (by rw [← HG2.out]; simp [List.append_assoc]), Lib.hid (by rw [HL2.out]; simp [List.append_assoc]), HZ2, HS2⟩
      case measure => simp [intOf]; omega
section
variable {α : Type} {key : α → ByteArray}
theorem Srt.ins {A B : List α} {x : α} (h : Srt key (A ++ B)) (hB : ∀ b ∈ B, ltS (key x) (key b) = true) (hA : A = [] ∨ ∃ A' y, A = A' ++ [y] ∧ ltS (key x) (key y) = false) : Srt key (A ++ x :: B) := by
  rw [Srt.app] at h ⊢
  refine ⟨h.1, Srt.cons.2 ⟨fun b hb => ltS_asymm (hB b hb), h.2.1⟩, fun a ha b hb => ?_⟩
  rcases List.mem_cons.1 hb with rfl | hb
  · rcases hA with rfl | ⟨A', y, rfl, hy⟩
    · cases ha
    · rcases List.mem_append.1 ha with ha | ha
      · have h1 := (Srt.app.1 h.1).2.2 a ha y (by simp)
        exact ltS_le_trans h1 hy
      · simp at ha; subst ha; exact hy
  · exact h.2.2 a ha b hb
theorem Stb.insStep {A : List α} {x y : α} {B : List α} (h : ltS (key x) (key y) = true) : Stb key ((A ++ [y]) ++ x :: B) (A ++ x :: (y :: B)) := by
  have e : Stb key ([y] ++ [x]) ([x] ++ [y]) := Stb.swap fun u hu v hv e => by
    simp at hu hv; subst hu hv
    rw [e, ltS_irrefl] at h; cases h
  have := (Stb.refl (key := key) A).app (e.app (Stb.refl B))
  simpa [List.append_assoc] using this
end
/-- The box of keyOf lies beside the row. -/
structure CmpOk (w0 : World) (blk B : Nat) : Prop where
  lt : B < w0.heap.size
  ne : B ≠ blk
  box : w0.cell? ⟨B, 0, none⟩ = some (.func (.func 51) #[] #[])
abbrev cmpF (B : Nat) : Value := .func (.func 75) #[] #[.pointer (some ⟨B, 0, none⟩)]
abbrev keyR : Rw → ByteArray := fun r => r.s
theorem SW6.only {w0 W : World} {blk off : Nat} {dk : Array Rw} (h : SW6 w0 blk off dk W) : Only blk w0 W := by
  obtain ⟨n, os, rfl⟩ := h
  refine ⟨rfl, rfl, rfl, SWK.le ⟨n, os, rfl⟩, fun k hk hne => ?_⟩
  unfold sortWorldK
  rw [heap_grow_old _ _ (by rw [size_putRowK]; exact hk)]
  unfold putRowK putRow mapBlock
  simp only [Array.getElem?_modify]
  rw [if_neg (fun e => hne e.symm)]
  rfl
theorem SW6.cmp {w0 W : World} {blk off B : Nat} {dk : Array Rw} (h : SW6 w0 blk off dk W) (hC : CmpOk w0 blk B) (x y : Rw) (n : Nat) (os : Array Obj) :
    Calls Try.prog 75 #[.agg #[.string x.s, .int .i64 x.k, .int .i64 x.n, .slice x.A2 x.m2 x.c2, .slice x.A3 x.m3 x.c3, .slice x.A4 x.m4 x.c4], .agg #[.string y.s, .int .i64 y.k, .int .i64 y.n, .slice y.A2 y.m2 y.c2, .slice y.A3 y.m3 y.c3, .slice y.A4 y.m4 y.c4], .pointer (some ⟨B, 0, none⟩)] (grow (W.drewN n) os) fun e w' => e = .returned (.int .i64 (cfR x y)) ∧ ∃ q os', w' = grow ((grow (W.drewN n) os).drewN q) os' := by
  have ho := h.only
  have hb : B < W.heap.size := Nat.lt_of_lt_of_le hC.lt ho.size
  refine risingC _ _ _ _ _ _ _ _ _ _ _ _ B _ (by rw [size_grow]; exact Nat.lt_of_lt_of_le hb (Nat.le_add_right _ _)) ?_
  exact cell_grown hb ((ho.cell (p := ⟨B, 0, none⟩) hC.lt hC.ne).trans hC.box) n os
theorem SW6.cells2 {w0 W : World} {blk off : Nat} {d0 dk : Array Rw} (h : SW6 w0 blk off dk W) (R : RW6 w0 blk off d0) (hs : dk.size = d0.size) (i : Nat) (hi : i < dk.size) (x : Rw) (hx : dk[i]! = x) (n : Nat) (os : Array Obj) :
    ((grow (W.drewN n) os).cell? ⟨blk, off + i * 6, none⟩ = some (.string x.s) ∧ (grow (W.drewN n) os).cell? ⟨blk, off + i * 6 + 1, none⟩ = some (.int .i64 x.k) ∧ (grow (W.drewN n) os).cell? ⟨blk, off + i * 6 + 2, none⟩ = some (.int .i64 x.n) ∧ (grow (W.drewN n) os).cell? ⟨blk, off + i * 6 + 3, none⟩ = some (.slice x.A2 x.m2 x.c2) ∧ (grow (W.drewN n) os).cell? ⟨blk, off + i * 6 + 4, none⟩ = some (.slice x.A3 x.m3 x.c3) ∧ (grow (W.drewN n) os).cell? ⟨blk, off + i * 6 + 5, none⟩ = some (.slice x.A4 x.m4 x.c4)) :=
  SW6.cells (SWK.grown h n os) R hs i hi x hx
set_option maxHeartbeats 8000000 in
theorem insertC (w0 : World) (blk off cap a b B : Nat) (d0 d : Array Rw) (N : Nat) (w : World) (R : RW6 w0 blk off d0) (hC : CmpOk w0 blk B) (hs : d.size = d0.size) (hN : d.size = N) (S : SW6 w0 blk off d w) (P U Q : List Rw) (hd : d.toList = P ++ (U ++ Q)) (ha : P.length = a) (hU : a + U.length = b) (hsz : d.size < 4611686018427387904) :
    Calls Try.prog 91 #[.slice (some ⟨blk, off, none⟩) N cap, .int .i64 a, .int .i64 b, cmpF B] w fun e w' => e = .returned (.tuple #[]) ∧ ∃ (d' : Array Rw) (U' : List Rw), d'.toList = P ++ (U' ++ Q) ∧ Srt keyR U' ∧ Stb keyR U U' ∧ d'.size = N ∧ SW6 w0 blk off d' w' := by
  have hbN : b ≤ N := by
    have := size_split d _ hd
    simp at this; omega
  have HN := Lib.hid hN
  rw [hN] at hsz hs
  have S0 := Lib.hid S
  have HD := Lib.hid hd
  have HS := Lib.hid hs
  have HA := Lib.hid ha
  have HU := Lib.hid hU
  have mixed : Try.prog.follows .mixedOrders = true := by kernel_rfl
  clear S hs hN hd ha
  rcases U with _ | ⟨u0, U0⟩
  · have hab : b = a := by simp at hU; omega
    clear hU
    subst hab
    have hlt : ¬ (b : Int) + 1 < b := by omega
    go_enter Try.func91, Try.ntmps91
    go_wp2
    go_loopw [8] (fun iv wr => iv = .int .i64 ((b : Int) + 1) ∧ Hid (SW6 w0 blk off d wr)) (fun iv _ => 0)
    case atStart => exact ⟨rfl, S0⟩
    case round =>
      obtain ⟨rfl, SH⟩ := hrel
      go_wp2
      go_end0
      exact ⟨rfl, d, [], HD.out, Srt.nil, Stb.refl _, HN.out, SH.out⟩
  · have hab : a < b := by simp at hU; omega
    clear hU
    go_enter Try.func91, Try.ntmps91
    go_wp2
    go_loopw [8] (fun iv wr => ∃ (i : Nat) (T1 T2 : List Rw) (dk : Array Rw), iv = .int .i64 i ∧ a < i ∧ i ≤ b ∧ Hid (a + T1.length = i) ∧ Hid (i + T2.length = b) ∧ Hid (dk.toList = P ++ ((T1 ++ T2) ++ Q)) ∧ Hid (Srt keyR T1) ∧ Hid (Stb keyR (u0 :: U0) (T1 ++ T2)) ∧ Hid (dk.size = N) ∧ Hid (SW6 w0 blk off dk wr)) (fun iv _ => b - (intOf iv).toNat)
    case atStart => exact ⟨a + 1, [u0], U0, d, by go_num, by omega, hab, Lib.hid rfl, Lib.hid (by have := HU.out; simp at this; omega), Lib.hid (by rw [HD.out]; rfl), Lib.hid (Srt.one _), Lib.hid (Stb.refl _), HN, S0⟩
    case round =>
      clear S0
      obtain ⟨i, T1, T2, dk, rfl, hai, hib, HT1, HT2, HL, HSR, HST, HZ, SH⟩ := hrel
      by_cases hlt : i < b
      · have hltz : (i : Int) < (b : Int) := by omega
        obtain ⟨x, T3, rfl⟩ : ∃ x T3, T2 = x :: T3 := by
          rcases T2 with _ | ⟨x, T3⟩
          · have := HT2.out; simp at this; omega
          · exact ⟨x, T3, rfl⟩
        go_wp2_with fail
        go_loopw [9] (fun jv wr2 => ∃ (j : Nat) (A B2 : List Rw) (dj : Array Rw), jv = .int .i64 j ∧ a ≤ j ∧ j ≤ i ∧ Hid (a + A.length = j) ∧ Hid (A.length + B2.length = T1.length) ∧ Hid (dj.toList = P ++ (((A ++ x :: B2) ++ T3) ++ Q)) ∧ Hid (Srt keyR (A ++ B2)) ∧ Hid (∀ b ∈ B2, ltS x.s b.s = true) ∧ Hid (Stb keyR (u0 :: U0) ((A ++ x :: B2) ++ T3)) ∧ Hid (dj.size = N) ∧ Hid (SW6 w0 blk off dj wr2)) (fun jv _ => (intOf jv).toNat)
        case atStart => exact ⟨i, T1, [], dk, rfl, by omega, Nat.le_refl _, HT1, Lib.hid (by simp), Lib.hid (by rw [HL.out]; simp), Lib.hid (by simpa using HSR.out), Lib.hid (by simp), Lib.hid (by simpa using HST.out), HZ, SH⟩
        case round =>
          clear SH HZ HST HL HSR
          obtain ⟨j, A, B2, dj, rfl, haj, hji, HA2, HAB, HL, HSR, HLT, HST, HZ, SH⟩ := hrel
          have HOUT : Hid ((A = [] ∨ ∃ A' y, A = A' ++ [y] ∧ ltS x.s y.s = false) → Srt keyR (A ++ x :: B2)) := Lib.hid (fun h => Srt.ins HSR.out HLT.out h)
          by_cases hja : a < j
          · have hjaz : (a : Int) < (j : Int) := by omega
            obtain ⟨jp, rfl⟩ : ∃ jp, j = jp + 1 := ⟨j - 1, by omega⟩
            obtain ⟨A', y, rfl⟩ : ∃ A' y, A = A' ++ [y] := by
              rcases List.eq_nil_or_concat A with h | ⟨A', y, h⟩
              · subst h; have := HA2.out; simp at this; omega
              · exact ⟨A', y, by simpa using h⟩
            have hlen : (P ++ A').length = jp := by have := HA.out; have := HA2.out; simp at *; omega
            have hdl : dj.toList = (P ++ A') ++ y :: ([] ++ x :: ((B2 ++ T3) ++ Q)) := by rw [HL.out]; simp [List.append_assoc]
            have hgy := at_split dj _ _ _ hdl
            have hgx : dj[jp + 1]! = x := by
              have := at_split dj ((P ++ A') ++ [y]) x ((B2 ++ T3) ++ Q) (by rw [hdl]; simp [List.append_assoc])
              rw [← hlen, ← this]; congr 1; simp; omega
            have hsw := swp_split2 dj _ _ _ _ _ hdl
            rw [hlen] at hgy
            simp only [hlen, List.length_nil, Nat.add_zero] at hsw
            have hwp : IntKind.i64.wrap (jp : Int) = (jp : Int) := by rw [IntKind.wrap_i64]; omega
            have jz : (jp : Int) + 1 < (N : Int) := by omega
            have jz1 : (jp : Int) < (N : Int) := by omega
            have hjaz' : (a : Int) < (jp : Int) + 1 := by omega
            have p0 : (0 : Int) ≤ (jp : Int) + 1 := by omega
            have e0 : ((jp : Int) + 1).toNat = jp + 1 := by omega
            have hzs : dj.size = d0.size := by rw [HZ.out]; exact HS.out
            have cx := SW6.cells2 SH.out R hzs (jp + 1) (by rw [HZ.out]; omega) x hgx
            have cy := SW6.cells2 SH.out R hzs jp (by rw [HZ.out]; omega) y hgy
            have hcmp := SW6.cmp SH.out hC x y
            have x0 := fun n os => (cx n os).1
            have x1 := fun n os => (cx n os).2.1
            have x2 := fun n os => (cx n os).2.2.1
            have x3 := fun n os => (cx n os).2.2.2.1
            have x4 := fun n os => (cx n os).2.2.2.2.1
            have x5 := fun n os => (cx n os).2.2.2.2.2
            have y0 := fun n os => (cy n os).1
            have y1 := fun n os => (cy n os).2.1
            have y2 := fun n os => (cy n os).2.2.1
            have y3 := fun n os => (cy n os).2.2.2.1
            have y4 := fun n os => (cy n os).2.2.2.2.1
            have y5 := fun n os => (cy n os).2.2.2.2.2
            have HGX := Lib.hid hgx
            have HGY := Lib.hid hgy
            have HSW := Lib.hid hsw
            have HZS := Lib.hid hzs
            clear cx cy hdl hgx hgy hsw hzs hlen
            cases hlv : ltS x.s y.s with
            | true =>
              have hd90 : decide (cfR x y < 0) = true := by unfold cfR; rw [cmpZ_neg]; exact hlv
              have hv90 : cfR x y < 0 := of_decide_eq_true hd90
              go_wp2_with fail
              go_quiet_grown (first | (go_at_call 75; refine Calls.grown_of (hcmp _ _)))
              have S2 : Hid (SW6 w0 blk off dj (grow (wr.drewN nq) osq)) := Lib.hid (SWK.grown SH.out nq osq)
              clear x0 x1 x2 x3 x4 x5 y0 y1 y2 y3 y4 y5 hcmp SH
              generalize grow (wr.drewN nq) osq = W2 at S2 ⊢
              clear nq osq
              obtain ⟨x0, x1, x2, x3, x4, x5⟩ := SW6.cells S2.out R HZS.out (jp + 1) (by rw [HZ.out]; omega) x HGX.out
              obtain ⟨y0, y1, y2, y3, y4, y5⟩ := SW6.cells S2.out R HZS.out jp (by rw [HZ.out]; omega) y HGY.out
              obtain ⟨f0, f1, f2, f3, f4, f5⟩ := SW6.free S2.out R HZS.out (jp + 1) (by rw [HZ.out]; omega)
              obtain ⟨g0, g1, g2, g3, g4, g5⟩ := SW6.free S2.out R HZS.out jp (by rw [HZ.out]; omega)
              have S3 := Lib.hid (SW6.swap6 S2.out R (jp + 1) jp (by rw [HZ.out]; omega) (by rw [HZ.out]; omega) x y HGX.out HGY.out)
              go_wp2_with fail
              go_big_region
              go_wp2_with fail
              go_roundw
              case rel =>
                refine ⟨jp, A', y :: B2, swp dj (jp + 1) jp, rfl, by omega, by omega, Lib.hid (by have := HA2.out; simp at this; omega), Lib.hid (by have := HAB.out; simp at *; omega), Lib.hid (by rw [HSW.out]; simp [List.append_assoc]), Lib.hid (by have := HSR.out; simpa [List.append_assoc] using this), Lib.hid (fun b hb => ?_), Lib.hid ?_, Lib.hid (by rw [size_swp]; exact HZ.out), ?_⟩
                · rcases List.mem_cons.1 hb with rfl | hb
                  · exact hlv
                  · exact HLT.out b hb
                · exact HST.out.trans ((Stb.insStep hlv).app (Stb.refl _))
                · with_reducible exact S3
              case measure => simp [intOf]
            | false =>
              have hd90 : decide (cfR x y < 0) = false := by unfold cfR; rw [cmpZ_neg]; exact hlv
              have hv90 : ¬ cfR x y < 0 := of_decide_eq_false hd90
              go_wp2_with fail
              go_quiet_grown (first | (go_at_call 75; refine Calls.grown_of (hcmp _ _)))
              have S2 : Hid (SW6 w0 blk off dj (grow (wr.drewN nq) osq)) := Lib.hid (SWK.grown SH.out nq osq)
              clear x0 x1 x2 x3 x4 x5 y0 y1 y2 y3 y4 y5 hcmp SH
              generalize grow (wr.drewN nq) osq = W2 at S2 ⊢
              clear nq osq
              go_wp2_with fail
              go_roundw
              case rel => exact ⟨i + 1, (A' ++ [y]) ++ x :: B2, T3, dj, by go_num, by omega, by omega, Lib.hid (by have := HT1.out; have := HAB.out; simp at *; omega), Lib.hid (by have := HT2.out; simp at *; omega), HL, Lib.hid (HOUT.out (.inr ⟨A', y, rfl, hlv⟩)), HST, HZ, S2⟩
              case measure => simp [intOf]; omega
          · obtain rfl : j = a := by omega
            obtain rfl : A = [] := List.eq_nil_of_length_eq_zero (by have := HA2.out; omega)
            have hjaz : decide ((j : Int) > (j : Int)) = false := decide_eq_false (by omega)
            have S2 : Hid (SW6 w0 blk off dj wr.drew) := Lib.hid (SWK.drew SH.out)
            clear SH
            go_wp2_with fail
            go_big_region
            go_wp2_with fail
            go_roundw
            case rel => exact ⟨i + 1, x :: B2, T3, dj, by go_num, by omega, by omega, Lib.hid (by have := HT1.out; have := HAB.out; simp at *; omega), Lib.hid (by have := HT2.out; simp at *; omega), HL, Lib.hid (HOUT.out (.inl (by trivial))), HST, HZ, S2⟩
            case measure => simp [intOf]; omega
      · obtain rfl : i = b := by omega
        obtain rfl : T2 = [] := List.eq_nil_of_length_eq_zero (by have := HT2.out; omega)
        go_wp2
        go_end0
        exact ⟨rfl, dk, T1, by rw [HL.out]; simp, HSR.out, by simpa using HST.out, HZ.out, SH.out⟩
/-- What the merge leaves. -/
def MrgP (w0 : World) (blk off N : Nat) (P Q : List Rw) (UV : List Rw) (e : Ending) (w' : World) : Prop := e = .returned (.tuple #[]) ∧ ∃ (d' : Array Rw) (M : List Rw), d'.toList = P ++ (M ++ Q) ∧ Srt keyR M ∧ Stb keyR UV M ∧ d'.size = N ∧ SW6 w0 blk off d' w'
theorem part_at {α : Type} (M : List α) (k : Nat) (h : k < M.length) : ∃ M1 y M2, M = M1 ++ y :: M2 ∧ M1.length = k :=
  ⟨M.take k, M[k], M.drop (k + 1), by rw [← List.drop_eq_getElem_cons h, List.take_append_drop], by simp; omega⟩
set_option maxHeartbeats 8000000 in
theorem symLC (w0 : World) (blk off cap a b B : Nat) (d0 d : Array Rw) (N : Nat) (w : World) (R : RW6 w0 blk off d0) (hC : CmpOk w0 blk B) (hs : d.size = d0.size) (hN : d.size = N) (S : SW6 w0 blk off d w) (P V Q : List Rw) (u : Rw) (hd : d.toList = P ++ ([u] ++ (V ++ Q))) (ha : P.length = a) (hV : a + 1 + V.length = b) (hSV : Srt keyR V) (hsz : d.size < 4611686018427387904) :
    Calls Try.prog 92 #[.slice (some ⟨blk, off, none⟩) N cap, .int .i64 a, .int .i64 ((a : Int) + 1), .int .i64 b, cmpF B] w (MrgP w0 blk off N P Q ([u] ++ V)) := by
  have hbN : b ≤ N := by
    have := size_split d _ hd
    simp at this; omega
  have HN := Lib.hid hN
  rw [hN] at hsz hs
  have S0 := Lib.hid S
  have HD := Lib.hid hd
  have HS := Lib.hid hs
  have HA := Lib.hid ha
  have HV := Lib.hid hV
  have HSV := Lib.hid hSV
  have hab : a + 1 ≤ b := by omega
  have mixed : Try.prog.follows .mixedOrders = true := by kernel_rfl
  have e1 : (((a : Int) + 1 - (a : Int)) == 1) = true := by simp; omega
  clear S hs hN hd ha hV hSV
  go_enter Try.func92, Try.ntmps92
  go_wp2_with fail
  clear e1
  go_loopw [10, 11] (fun iv jv wr => ∃ (i j : Nat) (W1 M W2 : List Rw), iv = .int .i64 i ∧ jv = .int .i64 j ∧ a + 1 ≤ i ∧ i ≤ j ∧ j ≤ b ∧ Hid (a + 1 + W1.length = i) ∧ Hid (i + M.length = j) ∧ Hid (V = W1 ++ (M ++ W2)) ∧ Hid (∀ y ∈ W1, ltS y.s u.s = true) ∧ Hid (∀ y ∈ W2, ltS y.s u.s = false) ∧ Hid (SW6 w0 blk off d wr)) (fun iv jv _ => (intOf jv).toNat - (intOf iv).toNat)
  case atStart => exact ⟨a + 1, b, [], V, [], by go_num, rfl, Nat.le_refl _, hab, Nat.le_refl _, Lib.hid rfl, HV, Lib.hid (by simp), Lib.hid (by simp), Lib.hid (by simp), S0⟩
  case round =>
    clear S0
    obtain ⟨i, j, W1, M, W2, rfl, rfl, hai, hij, hjb, HI, HJ, HW, HL1, HL2, SH⟩ := hrel
    by_cases hlt : i < j
    · have hltz : (i : Int) < j := by omega
      obtain ⟨h, hh⟩ : ∃ h, (i + j) / 2 = h := ⟨_, rfl⟩
      have hih : i ≤ h := by omega
      have hhj : h < j := by omega
      have hm : ((i : Int) + (j : Int)) / 2 = (h : Int) := by omega
      obtain ⟨M1, y, M2, rfl, hM1⟩ := part_at M (h - i) (by have := HJ.out; omega)
      have hdl : d.toList = P ++ u :: (W1 ++ (M1 ++ (y :: M2 ++ (W2 ++ Q)))) := by rw [HD.out, HW.out]; simp [List.append_assoc]
      have hgu := at_split d _ _ _ hdl
      have hgy : d[h]! = y := by
        have := at_split d (P ++ u :: (W1 ++ M1)) y (M2 ++ (W2 ++ Q)) (by rw [hdl]; simp [List.append_assoc])
        rw [← this]; congr 1; have := HA.out; have := HI.out; simp; omega
      rw [HA.out] at hgu
      have hzs : d.size = d0.size := by rw [HN.out]; exact HS.out
      have cx := SW6.cells2 SH.out R hzs h (by rw [HN.out]; omega) y hgy
      have cy := SW6.cells2 SH.out R hzs a (by rw [HN.out]; omega) u hgu
      have hcmp := SW6.cmp SH.out hC y u
      have x0 := fun n os => (cx n os).1
      have x1 := fun n os => (cx n os).2.1
      have x2 := fun n os => (cx n os).2.2.1
      have x3 := fun n os => (cx n os).2.2.2.1
      have x4 := fun n os => (cx n os).2.2.2.2.1
      have x5 := fun n os => (cx n os).2.2.2.2.2
      have y0 := fun n os => (cy n os).1
      have y1 := fun n os => (cy n os).2.1
      have y2 := fun n os => (cy n os).2.2.1
      have y3 := fun n os => (cy n os).2.2.2.1
      have y4 := fun n os => (cy n os).2.2.2.2.1
      have y5 := fun n os => (cy n os).2.2.2.2.2
      have hhN : (h : Int) < (N : Int) := by omega
      have haN : (a : Int) < (N : Int) := by omega
      have HM1 := Lib.hid hM1
      have HH := Lib.hid hh
      have HSV1 : Hid (Srt keyR (W1 ++ ((M1 ++ y :: M2) ++ W2))) := Lib.hid (by rw [← HW.out]; exact HSV.out)
      clear cx cy hdl hgu hgy hzs hM1 hh
      cases hlv : ltS y.s u.s with
      | true =>
        have hd90 : decide (cfR y u < 0) = true := by unfold cfR; rw [cmpZ_neg]; exact hlv
        have hv90 : cfR y u < 0 := of_decide_eq_true hd90
        have HL3 : Hid (∀ z ∈ W1 ++ (M1 ++ [y]), ltS z.s u.s = true) := Lib.hid (fun z hz => by
          rcases List.mem_append.1 hz with hz | hz
          · exact HL1.out z hz
          · rcases List.mem_append.1 hz with hz | hz
            · have h1 := Srt.app.1 (Srt.app.1 (Srt.app.1 HSV1.out).2.1).1
              exact ltS_le_lt (h1.2.2 z hz y (by simp)) hlv
            · simp at hz; subst hz; exact hlv)
        go_wp2_with fail
        go_quiet_grown (first | (go_at_call 75; refine Calls.grown_of (hcmp _ _)))
        have S2 : Hid (SW6 w0 blk off d (grow (wr.drewN nq) osq)) := Lib.hid (SWK.grown SH.out nq osq)
        clear x0 x1 x2 x3 x4 x5 y0 y1 y2 y3 y4 y5 hcmp SH
        generalize grow (wr.drewN nq) osq = W9 at S2 ⊢
        clear nq osq
        go_wp2_with fail
        go_roundw
        case rel => exact ⟨h + 1, j, W1 ++ (M1 ++ [y]), M2, W2, by go_num, rfl, by omega, by omega, hjb, Lib.hid (by have := HI.out; have := HM1.out; simp; omega), Lib.hid (by have := HJ.out; have := HM1.out; have := HI.out; simp at *; omega), Lib.hid (by rw [HW.out]; simp [List.append_assoc]), HL3, HL2, S2⟩
        case measure => simp [intOf]; omega
      | false =>
        have hd90 : decide (cfR y u < 0) = false := by unfold cfR; rw [cmpZ_neg]; exact hlv
        have hv90 : ¬ cfR y u < 0 := of_decide_eq_false hd90
        have HL3 : Hid (∀ z ∈ y :: (M2 ++ W2), ltS z.s u.s = false) := Lib.hid (fun z hz => by
          rcases List.mem_cons.1 hz with rfl | hz
          · exact hlv
          · rcases List.mem_append.1 hz with hz | hz
            · have h1 := (Srt.cons.1 (Srt.app.1 (Srt.app.1 (Srt.app.1 HSV1.out).2.1).1).2.1).1 z hz
              exact ltS_le_trans hlv h1
            · exact HL2.out z hz)
        go_wp2_with fail
        go_quiet_grown (first | (go_at_call 75; refine Calls.grown_of (hcmp _ _)))
        have S2 : Hid (SW6 w0 blk off d (grow (wr.drewN nq) osq)) := Lib.hid (SWK.grown SH.out nq osq)
        clear x0 x1 x2 x3 x4 x5 y0 y1 y2 y3 y4 y5 hcmp SH
        generalize grow (wr.drewN nq) osq = W9 at S2 ⊢
        clear nq osq
        go_wp2_with fail
        go_roundw
        case rel => exact ⟨i, h, W1, M1, y :: (M2 ++ W2), rfl, rfl, hai, hih, by omega, HI, Lib.hid (by have := HM1.out; omega), Lib.hid (by rw [HW.out]; simp [List.append_assoc]), HL1, HL3, S2⟩
        case measure => simp [intOf]; omega
    · obtain rfl : i = j := by omega
      obtain rfl : M = [] := List.eq_nil_of_length_eq_zero (by have := HJ.out; omega)
      have HSV1 : Hid (Srt keyR (W1 ++ W2)) := Lib.hid (by have := HSV.out; rw [HW.out] at this; simpa using this)
      have hi1 : (0 : Int) ≤ (i : Int) - 1 := by omega
      go_wp2_with fail
      go_loopw [13] (fun kv wr => ∃ (k : Nat) (T1 T2 : List Rw) (dk : Array Rw), kv = .int .i64 k ∧ a ≤ k ∧ k + 1 ≤ i ∧ Hid (a + T1.length = k) ∧ Hid (W1 = T1 ++ T2) ∧ Hid (dk.toList = P ++ (T1 ++ (u :: (T2 ++ (W2 ++ Q))))) ∧ Hid (dk.size = N) ∧ Hid (SW6 w0 blk off dk wr)) (fun kv _ => i - (intOf kv).toNat)
      case atStart => exact ⟨a, [], W1, d, rfl, Nat.le_refl _, by omega, Lib.hid (by simp), Lib.hid (by simp), Lib.hid (by rw [HD.out, HW.out]; simp), HN, SH⟩
      case round =>
        clear SH
        obtain ⟨k, T1, T2, dk, rfl, hak, hki, HK, HT, HL, HZ, SH⟩ := hrel
        by_cases hlt2 : k + 1 < i
        · have hkz : (k : Int) < (i : Int) - 1 := by omega
          obtain ⟨y, T3, rfl⟩ : ∃ y T3, T2 = y :: T3 := by
            rcases T2 with _ | ⟨y, T3⟩
            · have h1 := HI.out; rw [HT.out] at h1; have := HK.out; simp at h1; omega
            · exact ⟨y, T3, rfl⟩
          have hlen : (P ++ T1).length = k := by have := HA.out; have := HK.out; simp; omega
          have hdl : dk.toList = (P ++ T1) ++ u :: ([] ++ y :: (T3 ++ (W2 ++ Q))) := by rw [HL.out]; simp [List.append_assoc]
          have hgu := at_split dk _ _ _ hdl
          have hgy : dk[k + 1]! = y := by
            have := at_split dk ((P ++ T1) ++ [u]) y (T3 ++ (W2 ++ Q)) (by rw [hdl]; simp [List.append_assoc])
            rw [← hlen, ← this]; congr 1; simp; omega
          have hsw := swp_split dk _ _ _ _ _ hdl
          rw [hlen] at hgu
          simp only [hlen, List.length_nil, Nat.add_zero] at hsw
          have hzs : dk.size = d0.size := by rw [HZ.out]; exact HS.out
          obtain ⟨x0, x1, x2, x3, x4, x5⟩ := SW6.cells SH.out R hzs (k + 1) (by rw [HZ.out]; omega) y hgy
          obtain ⟨y0, y1, y2, y3, y4, y5⟩ := SW6.cells SH.out R hzs k (by rw [HZ.out]; omega) u hgu
          obtain ⟨f0, f1, f2, f3, f4, f5⟩ := SW6.free SH.out R hzs (k + 1) (by rw [HZ.out]; omega)
          obtain ⟨g0, g1, g2, g3, g4, g5⟩ := SW6.free SH.out R hzs k (by rw [HZ.out]; omega)
          have S3 := Lib.hid (SW6.swap6 SH.out R k (k + 1) (by rw [HZ.out]; omega) (by rw [HZ.out]; omega) u y hgu hgy)
          have jz : (k : Int) + 1 < (N : Int) := by omega
          have jz1 : (k : Int) < (N : Int) := by omega
          have p0 : (0 : Int) ≤ (k : Int) + 1 := by omega
          have e0 : ((k : Int) + 1).toNat = k + 1 := by omega
          have HSW := Lib.hid hsw
          clear hdl hgu hgy hsw hzs hlen SH
          go_wp2_with fail
          go_big_region
          go_wp2_with fail
          go_roundw
          case rel => exact ⟨k + 1, T1 ++ [y], T3, swp dk k (k + 1), by go_num, by omega, by omega, Lib.hid (by have := HK.out; simp; omega), Lib.hid (by rw [HT.out]; simp), Lib.hid (by rw [HSW.out]; simp [List.append_assoc]), Lib.hid (by rw [size_swp]; exact HZ.out), by with_reducible exact S3⟩
          case measure => simp [intOf]; omega
        · have hkz : ¬ (k : Int) < (i : Int) - 1 := by omega
          obtain rfl : T2 = [] := List.eq_nil_of_length_eq_zero (by have h1 := HI.out; rw [HT.out] at h1; have := HK.out; simp at h1; omega)
          go_wp2_with fail
          go_end0
          have hT : W1 = T1 := by rw [HT.out]; simp
          have hm := merge_left (key := keyR) (u := u) HSV1.out HL1.out HL2.out
          exact ⟨rfl, dk, W1 ++ u :: W2, by rw [HL.out, hT]; simp [List.append_assoc], hm.1, by rw [HW.out]; simpa using hm.2, HZ.out, SH.out⟩
set_option maxHeartbeats 8000000 in
theorem symRC (w0 : World) (blk off cap a m B : Nat) (d0 d : Array Rw) (N : Nat) (w : World) (R : RW6 w0 blk off d0) (hC : CmpOk w0 blk B) (hs : d.size = d0.size) (hN : d.size = N) (S : SW6 w0 blk off d w) (P U Q : List Rw) (v : Rw) (hd : d.toList = P ++ (U ++ ([v] ++ Q))) (ha : P.length = a) (hU : a + U.length = m) (hU2 : 2 ≤ U.length) (hSU : Srt keyR U) (hsz : d.size < 4611686018427387904) :
    Calls Try.prog 92 #[.slice (some ⟨blk, off, none⟩) N cap, .int .i64 a, .int .i64 m, .int .i64 ((m : Int) + 1), cmpF B] w (MrgP w0 blk off N P Q (U ++ [v])) := by
  have hbN : m + 1 ≤ N := by
    have := size_split d _ hd
    simp at this; omega
  have HN := Lib.hid hN
  rw [hN] at hsz hs
  have S0 := Lib.hid S
  have HD := Lib.hid hd
  have HS := Lib.hid hs
  have HA := Lib.hid ha
  have HU := Lib.hid hU
  have HSU := Lib.hid hSU
  have hab : a + 2 ≤ m := by omega
  have mixed : Try.prog.follows .mixedOrders = true := by kernel_rfl
  have e1 : (((m : Int) - (a : Int)) == 1) = false := by simp; omega
  have e2 : (((m : Int) + 1 - (m : Int)) == 1) = true := by simp; omega
  clear S hs hN hd ha hU hSU hU2
  go_enter Try.func92, Try.ntmps92
  go_wp2_with fail
  clear e1 e2
  go_loopw [14, 15] (fun iv jv wr => ∃ (i j : Nat) (W1 M W2 : List Rw), iv = .int .i64 i ∧ jv = .int .i64 j ∧ a ≤ i ∧ i ≤ j ∧ j ≤ m ∧ Hid (a + W1.length = i) ∧ Hid (i + M.length = j) ∧ Hid (U = W1 ++ (M ++ W2)) ∧ Hid (∀ y ∈ W1, ltS v.s y.s = false) ∧ Hid (∀ y ∈ W2, ltS v.s y.s = true) ∧ Hid (SW6 w0 blk off d wr)) (fun iv jv _ => (intOf jv).toNat - (intOf iv).toNat)
  case atStart => exact ⟨a, m, [], U, [], rfl, rfl, Nat.le_refl _, by omega, Nat.le_refl _, Lib.hid rfl, HU, Lib.hid (by simp), Lib.hid (by simp), Lib.hid (by simp), S0⟩
  case round =>
    clear S0
    obtain ⟨i, j, W1, M, W2, rfl, rfl, hai, hij, hjm, HI, HJ, HW, HL1, HL2, SH⟩ := hrel
    by_cases hlt : i < j
    · have hltz : (i : Int) < j := by omega
      obtain ⟨h, hh⟩ : ∃ h, (i + j) / 2 = h := ⟨_, rfl⟩
      have hih : i ≤ h := by omega
      have hhj : h < j := by omega
      have hm : ((i : Int) + (j : Int)) / 2 = (h : Int) := by omega
      obtain ⟨M1, y, M2, rfl, hM1⟩ := part_at M (h - i) (by have := HJ.out; omega)
      have hdl : d.toList = P ++ (W1 ++ (M1 ++ (y :: M2 ++ (W2 ++ (v :: Q))))) := by rw [HD.out, HW.out]; simp [List.append_assoc]
      have hgv : d[m]! = v := by
        have := at_split d (P ++ U) v Q (by rw [HD.out]; simp [List.append_assoc])
        rw [← this]; congr 1; have := HA.out; have := HU.out; simp; omega
      have hgy : d[h]! = y := by
        have := at_split d (P ++ (W1 ++ M1)) y (M2 ++ (W2 ++ (v :: Q))) (by rw [hdl]; simp [List.append_assoc])
        rw [← this]; congr 1; have := HA.out; have := HI.out; simp; omega
      have hzs : d.size = d0.size := by rw [HN.out]; exact HS.out
      have cx := SW6.cells2 SH.out R hzs h (by rw [HN.out]; omega) y hgy
      have cy := SW6.cells2 SH.out R hzs m (by rw [HN.out]; omega) v hgv
      have hcmp := SW6.cmp SH.out hC v y
      have x0 := fun n os => (cx n os).1
      have x1 := fun n os => (cx n os).2.1
      have x2 := fun n os => (cx n os).2.2.1
      have x3 := fun n os => (cx n os).2.2.2.1
      have x4 := fun n os => (cx n os).2.2.2.2.1
      have x5 := fun n os => (cx n os).2.2.2.2.2
      have y0 := fun n os => (cy n os).1
      have y1 := fun n os => (cy n os).2.1
      have y2 := fun n os => (cy n os).2.2.1
      have y3 := fun n os => (cy n os).2.2.2.1
      have y4 := fun n os => (cy n os).2.2.2.2.1
      have y5 := fun n os => (cy n os).2.2.2.2.2
      have hhN : (h : Int) < (N : Int) := by omega
      have haN : (m : Int) < (N : Int) := by omega
      have HM1 := Lib.hid hM1
      have HH := Lib.hid hh
      have HSU1 : Hid (Srt keyR (W1 ++ ((M1 ++ y :: M2) ++ W2))) := Lib.hid (by rw [← HW.out]; exact HSU.out)
      clear cx cy hdl hgv hgy hzs hM1 hh
      cases hlv : ltS v.s y.s with
      | true =>
        have hd90 : decide (cfR v y < 0) = true := by unfold cfR; rw [cmpZ_neg]; exact hlv
        have hv90 : cfR v y < 0 := of_decide_eq_true hd90
        have HL3 : Hid (∀ z ∈ y :: (M2 ++ W2), ltS v.s z.s = true) := Lib.hid (fun z hz => by
          rcases List.mem_cons.1 hz with rfl | hz
          · exact hlv
          · rcases List.mem_append.1 hz with hz | hz
            · have h1 := (Srt.cons.1 (Srt.app.1 (Srt.app.1 (Srt.app.1 HSU1.out).2.1).1).2.1).1 z hz
              exact ltS_lt_le hlv h1
            · exact HL2.out z hz)
        go_wp2_with fail
        go_quiet_grown (first | (go_at_call 75; refine Calls.grown_of (hcmp _ _)))
        have S2 : Hid (SW6 w0 blk off d (grow (wr.drewN nq) osq)) := Lib.hid (SWK.grown SH.out nq osq)
        clear x0 x1 x2 x3 x4 x5 y0 y1 y2 y3 y4 y5 hcmp SH
        generalize grow (wr.drewN nq) osq = W9 at S2 ⊢
        clear nq osq
        go_wp2_with fail
        go_roundw
        case rel => exact ⟨i, h, W1, M1, y :: (M2 ++ W2), rfl, rfl, hai, hih, by omega, HI, Lib.hid (by have := HM1.out; omega), Lib.hid (by rw [HW.out]; simp [List.append_assoc]), HL1, HL3, S2⟩
        case measure => simp [intOf]; omega
      | false =>
        have hd90 : decide (cfR v y < 0) = false := by unfold cfR; rw [cmpZ_neg]; exact hlv
        have hv90 : ¬ cfR v y < 0 := of_decide_eq_false hd90
        have HL3 : Hid (∀ z ∈ W1 ++ (M1 ++ [y]), ltS v.s z.s = false) := Lib.hid (fun z hz => by
          rcases List.mem_append.1 hz with hz | hz
          · exact HL1.out z hz
          · rcases List.mem_append.1 hz with hz | hz
            · have h1 := Srt.app.1 (Srt.app.1 (Srt.app.1 HSU1.out).2.1).1
              exact ltS_le_trans (h1.2.2 z hz y (by simp)) hlv
            · simp at hz; subst hz; exact hlv)
        go_wp2_with fail
        go_quiet_grown (first | (go_at_call 75; refine Calls.grown_of (hcmp _ _)))
        have S2 : Hid (SW6 w0 blk off d (grow (wr.drewN nq) osq)) := Lib.hid (SWK.grown SH.out nq osq)
        clear x0 x1 x2 x3 x4 x5 y0 y1 y2 y3 y4 y5 hcmp SH
        generalize grow (wr.drewN nq) osq = W9 at S2 ⊢
        clear nq osq
        go_wp2_with fail
        go_roundw
        case rel => exact ⟨h + 1, j, W1 ++ (M1 ++ [y]), M2, W2, by go_num, rfl, by omega, by omega, hjm, Lib.hid (by have := HI.out; have := HM1.out; simp; omega), Lib.hid (by have := HJ.out; have := HM1.out; have := HI.out; simp at *; omega), Lib.hid (by rw [HW.out]; simp [List.append_assoc]), HL3, HL2, S2⟩
        case measure => simp [intOf]; omega
    · obtain rfl : i = j := by omega
      obtain rfl : M = [] := List.eq_nil_of_length_eq_zero (by have := HJ.out; omega)
      have HSU1 : Hid (Srt keyR (W1 ++ W2)) := Lib.hid (by have := HSU.out; rw [HW.out] at this; simpa using this)
      go_wp2_with fail
      go_loopw [17] (fun kv wr => ∃ (k : Nat) (T1 T2 : List Rw) (dk : Array Rw), kv = .int .i64 k ∧ i ≤ k ∧ k ≤ m ∧ Hid (i + T1.length = k) ∧ Hid (W2 = T1 ++ T2) ∧ Hid (dk.toList = P ++ (W1 ++ (T1 ++ (v :: (T2 ++ Q))))) ∧ Hid (dk.size = N) ∧ Hid (SW6 w0 blk off dk wr)) (fun kv _ => (intOf kv).toNat)
      case atStart => exact ⟨m, W2, [], d, rfl, hjm, Nat.le_refl _, Lib.hid (by have h1 := HU.out; rw [HW.out] at h1; have := HI.out; simp at h1; omega), Lib.hid (by simp), Lib.hid (by rw [HD.out, HW.out]; simp), HN, SH⟩
      case round =>
        clear SH
        obtain ⟨k, T1, T2, dk, rfl, hik, hkm, HK, HT, HL, HZ, SH⟩ := hrel
        by_cases hlt2 : i < k
        · have hkz : (i : Int) < (k : Int) := by omega
          obtain ⟨kp, rfl⟩ : ∃ kp, k = kp + 1 := ⟨k - 1, by omega⟩
          obtain ⟨T3, y, rfl⟩ : ∃ A' y, T1 = A' ++ [y] := by
            rcases List.eq_nil_or_concat T1 with h | ⟨A', y, h⟩
            · subst h; have := HK.out; simp at this; omega
            · exact ⟨A', y, by simpa using h⟩
          have hlen : (P ++ (W1 ++ T3)).length = kp := by have := HA.out; have := HK.out; have := HI.out; simp at *; omega
          have hdl : dk.toList = (P ++ (W1 ++ T3)) ++ y :: ([] ++ v :: (T2 ++ Q)) := by rw [HL.out]; simp [List.append_assoc]
          have hgy := at_split dk _ _ _ hdl
          have hgv : dk[kp + 1]! = v := by
            have := at_split dk ((P ++ (W1 ++ T3)) ++ [y]) v (T2 ++ Q) (by rw [hdl]; simp [List.append_assoc])
            rw [← hlen, ← this]; congr 1; simp; omega
          have hsw := swp_split2 dk _ _ _ _ _ hdl
          rw [hlen] at hgy
          simp only [hlen, List.length_nil, Nat.add_zero] at hsw
          have hzs : dk.size = d0.size := by rw [HZ.out]; exact HS.out
          obtain ⟨x0, x1, x2, x3, x4, x5⟩ := SW6.cells SH.out R hzs (kp + 1) (by rw [HZ.out]; omega) v hgv
          obtain ⟨y0, y1, y2, y3, y4, y5⟩ := SW6.cells SH.out R hzs kp (by rw [HZ.out]; omega) y hgy
          obtain ⟨f0, f1, f2, f3, f4, f5⟩ := SW6.free SH.out R hzs (kp + 1) (by rw [HZ.out]; omega)
          obtain ⟨g0, g1, g2, g3, g4, g5⟩ := SW6.free SH.out R hzs kp (by rw [HZ.out]; omega)
          have S3 := Lib.hid (SW6.swap6 SH.out R (kp + 1) kp (by rw [HZ.out]; omega) (by rw [HZ.out]; omega) v y hgv hgy)
          have hwp : IntKind.i64.wrap (kp : Int) = (kp : Int) := by rw [IntKind.wrap_i64]; omega
          have jz : (kp : Int) + 1 < (N : Int) := by omega
          have jz1 : (kp : Int) < (N : Int) := by omega
          have hkz' : (i : Int) < (kp : Int) + 1 := by omega
          have p0 : (0 : Int) ≤ (kp : Int) + 1 := by omega
          have e0 : ((kp : Int) + 1).toNat = kp + 1 := by omega
          have HSW := Lib.hid hsw
          clear hdl hgv hgy hsw hzs hlen SH
          go_wp2_with fail
          go_big_region
          go_wp2_with fail
          go_roundw
          case rel => exact ⟨kp, T3, y :: T2, swp dk (kp + 1) kp, rfl, by omega, by omega, Lib.hid (by have := HK.out; simp at this; omega), Lib.hid (by rw [HT.out]; simp), Lib.hid (by rw [HSW.out]; simp [List.append_assoc]), Lib.hid (by rw [size_swp]; exact HZ.out), by with_reducible exact S3⟩
          case measure => simp [intOf]
        · have hkz : ¬ (i : Int) < (k : Int) := by omega
          obtain rfl : T1 = [] := List.eq_nil_of_length_eq_zero (by have := HK.out; omega)
          go_wp2_with fail
          go_end0
          have hT : W2 = T2 := by rw [HT.out]; simp
          have hm := merge_right (key := keyR) (v := v) HSU1.out HL1.out HL2.out
          exact ⟨rfl, dk, W1 ++ v :: W2, by rw [HL.out, hT]; simp [List.append_assoc], hm.1, by rw [HW.out]; simpa using hm.2, HZ.out, SH.out⟩
theorem srt_at (d : Array Rw) (P U T : List Rw) (h : d.toList = P ++ (U ++ T)) (hS : Srt keyR U) (i j : Nat) (h1 : P.length ≤ i) (h2 : i ≤ j) (h3 : j < P.length + U.length) : ltS d[j]!.s d[i]!.s = false := by
  have at_ : ∀ k (hk : k < U.length), d[P.length + k]! = U[k] := fun k hk => by
    obtain ⟨U1, y, U2, e, hl⟩ := part_at U k hk
    have := at_split d (P ++ U1) y (U2 ++ T) (by rw [h, e]; simp [List.append_assoc])
    rw [show (P ++ U1).length = P.length + U1.length by simp] at this
    subst hl
    rw [this]
    simp [e]
  have ei := at_ (i - P.length) (by omega)
  have ej := at_ (j - P.length) (by omega)
  rw [show P.length + (i - P.length) = i by omega] at ei
  rw [show P.length + (j - P.length) = j by omega] at ej
  rw [ei, ej]
  by_cases hij : i = j
  · subst hij; exact ltS_irrefl _
  · exact (List.pairwise_iff_getElem.1 hS) (i - P.length) (j - P.length) (by omega) (by omega) (by omega)
theorem app_eqS {α : Type} {L P U V T : List α} (h : L = (P ++ U) ++ (V ++ T)) : L = P ++ ((U ++ V) ++ T) := by rw [h]; simp [List.append_assoc]
theorem app_eqT {α : Type} {L P N M Q : List α} (h : L = (P ++ N) ++ (M ++ Q)) : L = P ++ ((N ++ M) ++ Q) := by rw [h]; simp [List.append_assoc]
theorem app_eqU {α : Type} {L P N U V Q : List α} (h : L = P ++ (N ++ (U ++ (V ++ Q)))) : L = P ++ ((N ++ (U ++ V)) ++ Q) := by rw [h]; simp [List.append_assoc]
theorem mem_at (d : Array Rw) (P U T : List Rw) (h : d.toList = P ++ (U ++ T)) (u : Rw) (hu : u ∈ U) : ∃ k, P.length ≤ k ∧ k < P.length + U.length ∧ d[k]! = u := by
  obtain ⟨U1, U2, e⟩ := List.append_of_mem hu
  refine ⟨P.length + U1.length, by omega, by rw [e]; simp, ?_⟩
  have := at_split d (P ++ U1) u (U2 ++ T) (by rw [h, e]; simp [List.append_assoc])
  simpa using this
/-- What is known of fewer entries. -/
def SymIH (w0 : World) (blk off cap B N NN : Nat) : Prop := ∀ (a m b : Nat) (d : Array Rw) (w : World) (P U V Q : List Rw), d.size = N → SW6 w0 blk off d w → d.toList = P ++ (U ++ (V ++ Q)) → P.length = a → a + U.length = m → m + V.length = b → 0 < U.length → 0 < V.length → Srt keyR U → Srt keyR V → b - a ≤ NN →
    Calls Try.prog 92 #[.slice (some ⟨blk, off, none⟩) N cap, .int .i64 a, .int .i64 m, .int .i64 b, cmpF B] w (MrgP w0 blk off N P Q (U ++ V))
end

section
open Go.RowKit Go.Sort
set_option linter.unusedVariables false
set_option maxRecDepth 100000
set_option maxHeartbeats 16000000 in
theorem symAC (w0 : World) (blk off cap B : Nat) (d0 : Array Rw) (N : Nat) (R : RW6 w0 blk off d0) (hC : CmpOk w0 blk B) (hs : N = d0.size) (hsz : N < 4611686018427387904) (NN : Nat) (IH0 : SymIH w0 blk off cap B N NN)
    (a m b mid : Nat) (d : Array Rw) (w : World) (P U V Q : List Rw) (hN : d.size = N) (S : SW6 w0 blk off d w) (hd : d.toList = P ++ (U ++ (V ++ Q))) (ha : P.length = a) (hU : a + U.length = m) (hV : m + V.length = b) (hu0 : 2 ≤ U.length) (hv0 : 2 ≤ V.length) (hSU : Srt keyR U) (hSV : Srt keyR V) (hNN : b - a ≤ NN + 1) (hmid : (a + b) / 2 = mid) (hA : mid < m) (hbN : b ≤ N) :
    Calls Try.prog 92 #[.slice (some ⟨blk, off, none⟩) N cap, .int .i64 a, .int .i64 m, .int .i64 b, cmpF B] w (MrgP w0 blk off N P Q (U ++ V)) := by
  have IH := Lib.hid IH0
  clear IH0
  have hVL := hV
  obtain ⟨p, hp⟩ : ∃ p, mid + m - 1 = p := ⟨_, rfl⟩
  have am : a + 2 ≤ m := by omega
  have mb : m + 2 ≤ b := by omega
  have S0 := Lib.hid S
  have HD := Lib.hid hd
  have HN := Lib.hid hN
  have HS := Lib.hid hs
  have HA := Lib.hid ha
  have HSU := Lib.hid hSU
  have HSV := Lib.hid hSV
  have HUM : Hid (∀ i j, a ≤ i → i ≤ j → j < m → ltS d[j]!.s d[i]!.s = false) := Lib.hid (fun i j h1 h2 h3 => srt_at d P U (V ++ Q) hd hSU i j (by omega) h2 (by omega))
  have HVM : Hid (∀ i j, m ≤ i → i ≤ j → j < b → ltS d[j]!.s d[i]!.s = false) := Lib.hid (fun i j h1 h2 h3 => srt_at d (P ++ U) V Q (by rw [hd]; simp [List.append_assoc]) hSV i j (by simp; omega) h2 (by simp; omega))
  have mixed : Try.prog.follows .mixedOrders = true := by kernel_rfl
  have e1 : (((m : Int) - (a : Int)) == 1) = false := by simp; omega
  have e2 : (((b : Int) - (m : Int)) == 1) = false := by simp; omega
  have e3 : ((a : Int) + (b : Int)) / 2 = (mid : Int) := by omega
  have e4 : (mid : Int) + (m : Int) - 1 = (p : Int) := by omega
  have hma : a ≤ mid ∧ mid < b := by omega
  clear S hd hN hs ha hSU hSV
  obtain ⟨s0, hs0⟩ : ∃ s0, mid + m - b = s0 := ⟨_, rfl⟩
  have hAz : (mid : Int) < (m : Int) := by omega
  have e5 : (mid : Int) + (m : Int) - (b : Int) = (s0 : Int) := by omega
  have hsr0 : s0 ≤ mid := by omega
  have HBD : Hid (∀ c, s0 ≤ c → c < mid → a ≤ c ∧ c < m ∧ m ≤ p - c ∧ p - c < b ∧ c ≤ p) := Lib.hid (fun c h1 h2 => by omega)
  have hs0 : a ≤ s0 := by omega
  go_enter Try.func92, Try.ntmps92
  go_wp2_with fail
  clear e1 e2 e3 e4
  try clear e5
  go_loopw [20, 21] (fun sv rv wr => ∃ (s r : Nat), sv = .int .i64 s ∧ rv = .int .i64 r ∧ s0 ≤ s ∧ s ≤ r ∧ r ≤ mid ∧ Hid (∀ c, s0 ≤ c → c < s → ltS d[p - c]!.s d[c]!.s = false) ∧ Hid (∀ c, r ≤ c → c < mid → ltS d[p - c]!.s d[c]!.s = true) ∧ Hid (SW6 w0 blk off d wr)) (fun sv rv _ => (intOf rv).toNat - (intOf sv).toNat)
  case atStart => exact ⟨s0, mid, rfl, rfl, Nat.le_refl _, hsr0, Nat.le_refl _, Lib.hid (fun c h1 h2 => by omega), Lib.hid (fun c h1 h2 => by omega), S0⟩
  case round =>
    clear S0
    obtain ⟨s, r, rfl, rfl, hs0, hsr, hr0, HLO, HHI, SH⟩ := hrel
    by_cases hlt : s < r
    · have hltz : (s : Int) < r := by omega
      obtain ⟨c, hc⟩ : ∃ c, (s + r) / 2 = c := ⟨_, rfl⟩
      have hsc : s ≤ c := by omega
      have hcr : c < r := by omega
      have hm : ((s : Int) + (r : Int)) / 2 = (c : Int) := by omega
      have hb4 := HBD.out c (by omega) (by omega)
      obtain ⟨q, hq⟩ : ∃ q, p - c = q := ⟨_, rfl⟩
      have hpq : (p : Int) - (c : Int) = (q : Int) := by omega
      have hpw : IntKind.i64.wrap (q : Int) = (q : Int) := IntWalk.i64_in _ (by omega)
      have hcN : (c : Int) < (N : Int) := by omega
      have hqN : (q : Int) < (N : Int) := by omega
      have hzs : d.size = d0.size := by rw [HN.out]; exact HS.out
      obtain ⟨x, hx⟩ : ∃ x, d[q]! = x := ⟨_, rfl⟩
      obtain ⟨y, hy⟩ : ∃ y, d[c]! = y := ⟨_, rfl⟩
      have cx := SW6.cells2 SH.out R hzs q (by rw [HN.out]; omega) x hx
      have cy := SW6.cells2 SH.out R hzs c (by rw [HN.out]; omega) y hy
      have hcmp := SW6.cmp SH.out hC x y
      have x0 := fun n os => (cx n os).1
      have x1 := fun n os => (cx n os).2.1
      have x2 := fun n os => (cx n os).2.2.1
      have x3 := fun n os => (cx n os).2.2.2.1
      have x4 := fun n os => (cx n os).2.2.2.2.1
      have x5 := fun n os => (cx n os).2.2.2.2.2
      have y0 := fun n os => (cy n os).1
      have y1 := fun n os => (cy n os).2.1
      have y2 := fun n os => (cy n os).2.2.1
      have y3 := fun n os => (cy n os).2.2.2.1
      have y4 := fun n os => (cy n os).2.2.2.2.1
      have y5 := fun n os => (cy n os).2.2.2.2.2
      cases hlv : ltS x.s y.s with
      | true =>
        have hd90 : decide (cfR x y < 0) = true := by unfold cfR; rw [cmpZ_neg]; exact hlv
        have hv90 : cfR x y < 0 := of_decide_eq_true hd90
        have HHI2 : Hid (∀ c', c ≤ c' → c' < mid → ltS d[p - c']!.s d[c']!.s = true) := Lib.hid (fun c' h1 h2 => by
          have hb5 := HBD.out c' (by omega) h2
          have k1 := HUM.out c c' (by omega) h1 (by omega)
          have k2 := HVM.out (p - c') q (by omega) (by omega) (by omega)
          rw [hx] at k2
          rw [hy] at k1
          exact ltS_lt_le (ltS_le_lt k2 hlv) k1)
        clear cx cy hx hy hzs hq hc hb4
        go_wp2_with fail
        go_quiet_grown (first | (go_at_call 75; refine Calls.grown_of (hcmp _ _)))
        have S2 : Hid (SW6 w0 blk off d (grow (wr.drewN nq) osq)) := Lib.hid (SWK.grown SH.out nq osq)
        clear x0 x1 x2 x3 x4 x5 y0 y1 y2 y3 y4 y5 hcmp SH
        generalize grow (wr.drewN nq) osq = W9 at S2 ⊢
        clear nq osq
        go_wp2_with fail
        go_roundw
        case rel => exact ⟨s, c, rfl, rfl, hs0, hsc, by omega, HLO, HHI2, S2⟩
        case measure => simp [intOf]; omega
      | false =>
        have hd90 : decide (cfR x y < 0) = false := by unfold cfR; rw [cmpZ_neg]; exact hlv
        have hv90 : ¬ cfR x y < 0 := of_decide_eq_false hd90
        have HLO2 : Hid (∀ c', s0 ≤ c' → c' < c + 1 → ltS d[p - c']!.s d[c']!.s = false) := Lib.hid (fun c' h1 h2 => by
          have hb5 := HBD.out c' h1 (by omega)
          have k1 := HUM.out c' c (by omega) (by omega) (by omega)
          have k2 := HVM.out q (p - c') (by omega) (by omega) (by omega)
          rw [hx] at k2
          rw [hy] at k1
          exact ltS_le_trans (ltS_le_trans k1 hlv) k2)
        clear cx cy hx hy hzs hq hc hb4
        go_wp2_with fail
        go_quiet_grown (first | (go_at_call 75; refine Calls.grown_of (hcmp _ _)))
        have S2 : Hid (SW6 w0 blk off d (grow (wr.drewN nq) osq)) := Lib.hid (SWK.grown SH.out nq osq)
        clear x0 x1 x2 x3 x4 x5 y0 y1 y2 y3 y4 y5 hcmp SH
        generalize grow (wr.drewN nq) osq = W9 at S2 ⊢
        clear nq osq
        go_wp2_with fail
        go_roundw
        case rel => exact ⟨c + 1, r, by go_num, rfl, by omega, by omega, hr0, HLO2, HHI, S2⟩
        case measure => simp [intOf]; omega
    · obtain rfl : s = r := by omega
      obtain ⟨U1, U2, hU12, hU1⟩ : ∃ U1 U2, U = U1 ++ U2 ∧ U1.length = s - a := ⟨U.take (s - a), U.drop (s - a), (List.take_append_drop _ _).symm, by simp; omega⟩
      obtain ⟨en, hen⟩ : ∃ en, mid + m - s = en := ⟨_, rfl⟩
      have hez : (mid : Int) + (m : Int) - (s : Int) = (en : Int) := by omega
      obtain ⟨V1, V2, hV12, hV1⟩ : ∃ V1 V2, V = V1 ++ V2 ∧ V1.length = en - m := ⟨V.take (en - m), V.drop (en - m), (List.take_append_drop _ _).symm, by simp; omega⟩
      have hUl : U1.length + U2.length = m - a := by rw [hU12] at hU; simp at hU; omega
      have hVl : V1.length + V2.length = b - m := by rw [hV12] at hV; simp at hV; omega
      have HX1 : Hid (∀ u ∈ U2, ∀ v ∈ V1, ltS v.s u.s = true) := Lib.hid (fun u hu v hv => by
        obtain ⟨i, hi1, hi2, rfl⟩ := mem_at d (P ++ U1) U2 (V1 ++ (V2 ++ Q)) (by rw [HD.out, hU12, hV12]; simp [List.append_assoc]) u hu
        obtain ⟨j, hj1, hj2, rfl⟩ := mem_at d (P ++ (U1 ++ U2)) V1 (V2 ++ Q) (by rw [HD.out, hU12, hV12]; simp [List.append_assoc]) v hv
        have := HA.out
        simp at hi1 hi2 hj1 hj2
        have k0 := HHI.out s (Nat.le_refl _) (by omega)
        have k1 := HUM.out s i (by omega) (by omega) (by omega)
        have k2 := HVM.out j (p - s) (by omega) (by omega) (by omega)
        exact ltS_lt_le (ltS_le_lt k2 k0) k1)
      have HX2 : Hid (∀ u ∈ U1, ∀ v ∈ V2, ltS v.s u.s = false) := Lib.hid (fun u hu v hv => by
        obtain ⟨i, hi1, hi2, rfl⟩ := mem_at d P U1 (U2 ++ (V1 ++ (V2 ++ Q))) (by rw [HD.out, hU12, hV12]; simp [List.append_assoc]) u hu
        obtain ⟨j, hj1, hj2, rfl⟩ := mem_at d (P ++ (U1 ++ (U2 ++ V1))) V2 Q (by rw [HD.out, hU12, hV12]; simp [List.append_assoc]) v hv
        have := HA.out
        simp at hi1 hi2 hj1 hj2
        have k0 := HLO.out (s - 1) (by omega) (by omega)
        have k1 := HUM.out i (s - 1) (by omega) (by omega) (by omega)
        have k2 := HVM.out (p - (s - 1)) j (by omega) (by omega) (by omega)
        exact ltS_le_trans (ltS_le_trans k1 k0) k2)
      have HSU1 : Hid (Srt keyR (U1 ++ U2)) := Lib.hid (by rw [← hU12]; exact HSU.out)
      have HSV1 : Hid (Srt keyR (V1 ++ V2)) := Lib.hid (by rw [← hV12]; exact HSV.out)
      have HD1 : Hid (d.toList = P ++ (U1 ++ (U2 ++ (V1 ++ (V2 ++ Q))))) := Lib.hid (by rw [HD.out, hU12, hV12]; simp [List.append_assoc])
      have HUV : Hid (U ++ V = (U1 ++ U2) ++ (V1 ++ V2)) := Lib.hid (by rw [hU12, hV12])
      have HR0 : Hid (s < m → s < mid → ∀ W, SW6 w0 blk off d W → Calls Try.prog 94 #[.slice (some ⟨blk, off, none⟩) N cap, .int .i64 s, .int .i64 m, .int .i64 en, cmpF B] W fun e w' => e = .returned (.tuple #[]) ∧ ∃ d' : Array Rw, d'.toList = (P ++ U1) ++ (V1 ++ (U2 ++ (V2 ++ Q))) ∧ d'.size = N ∧ SW6 w0 blk off d' w') := Lib.hid (fun h1 h2 W hW =>
        rotateC w0 blk off cap s m en d0 d (cmpF B) N W R (by rw [HN.out]; exact HS.out) HN.out hW (P ++ U1) U2 V1 (V2 ++ Q) (by rw [HD1.out]; simp [List.append_assoc]) (by have := HA.out; simp; omega) (by omega) (by omega) (by omega) (by omega) (by rw [HN.out]; exact hsz))
      have HRL : Hid (∀ d1 W, d1.toList = (P ++ U1) ++ (V1 ++ (U2 ++ (V2 ++ Q))) → d1.size = N → SW6 w0 blk off d1 W → a < s → s < mid → Calls Try.prog 92 #[.slice (some ⟨blk, off, none⟩) N cap, .int .i64 a, .int .i64 s, .int .i64 mid, cmpF B] W (MrgP w0 blk off N P (U2 ++ (V2 ++ Q)) (U1 ++ V1))) := Lib.hid (fun d1 W k1 k2 k3 k4 k5 =>
        IH.out a s mid d1 W P U1 V1 (U2 ++ (V2 ++ Q)) k2 k3 (by rw [k1]; simp [List.append_assoc]) HA.out (by omega) (by omega) (by omega) (by omega) (Srt.app.1 HSU1.out).1 (Srt.app.1 HSV1.out).1 (by omega))
      have HRR : Hid (∀ d1 W (N1 : List Rw), d1.toList = P ++ (N1 ++ (U2 ++ (V2 ++ Q))) → N1.length = mid - a → d1.size = N → SW6 w0 blk off d1 W → s < m → en < b → Calls Try.prog 92 #[.slice (some ⟨blk, off, none⟩) N cap, .int .i64 mid, .int .i64 en, .int .i64 b, cmpF B] W (MrgP w0 blk off N (P ++ N1) Q (U2 ++ V2))) := Lib.hid (fun d1 W N1 k1 kl k2 k3 k4 k5 =>
        IH.out mid en b d1 W (P ++ N1) U2 V2 Q k2 k3 (by rw [k1]; simp [List.append_assoc]) (by have := HA.out; simp; omega) (by omega) (by omega) (by omega) (by omega) (Srt.app.1 HSU1.out).2.1 (Srt.app.1 HSV1.out).2.1 (by omega))
      have HE1 : Hid (¬ (s < m ∧ s < mid) → U2 ++ (V1 ++ (V2 ++ Q)) = V1 ++ (U2 ++ (V2 ++ Q))) := Lib.hid (fun h => by
        by_cases h5 : s < m
        · obtain rfl : V1 = [] := List.eq_nil_of_length_eq_zero (by omega)
          rfl
        · obtain rfl : U2 = [] := List.eq_nil_of_length_eq_zero (by omega)
          rfl)
      have HE2 : Hid (¬ (a < s ∧ s < mid) → Srt keyR (U1 ++ V1)) := Lib.hid (fun h => by
        by_cases h5 : a < s
        · obtain rfl : V1 = [] := List.eq_nil_of_length_eq_zero (by omega)
          simpa using (Srt.app.1 HSU1.out).1
        · obtain rfl : U1 = [] := List.eq_nil_of_length_eq_zero (by omega)
          exact (Srt.app.1 HSV1.out).1)
      have HE3 : Hid (¬ (s < m ∧ en < b) → Srt keyR (U2 ++ V2)) := Lib.hid (fun h => by
        by_cases h5 : s < m
        · obtain rfl : V2 = [] := List.eq_nil_of_length_eq_zero (by omega)
          simpa using (Srt.app.1 HSU1.out).2.1
        · obtain rfl : U2 = [] := List.eq_nil_of_length_eq_zero (by omega)
          exact (Srt.app.1 HSV1.out).2.1)
      have HUVl : Hid ((U1 ++ V1).length = mid - a) := Lib.hid (by simp; omega)
      have HU1 := Lib.hid hU1
      have HU2 := Lib.hid hUl
      have HV1 := Lib.hid hV1
      have HV2 := Lib.hid hVl
      clear hU12 hV12 HUM HVM HBD HLO HHI IH hlt HSU HSV hU1 hUl hV1 hVl
      by_cases hcA : s < m
      all_goals by_cases hcB : s < mid
      all_goals try (exfalso; omega)
      all_goals have zA1 : ∀ (h : s < m), (s : Int) < m := fun h => by omega
      all_goals have zA2 : ∀ (h : ¬ s < m), ¬ (s : Int) < m := fun h => by omega
      all_goals have zB1 : ∀ (h : s < mid), (s : Int) < mid := fun h => by omega
      all_goals have zB2 : ∀ (h : ¬ s < mid), ¬ (s : Int) < mid := fun h => by omega
      all_goals have zC1 : ∀ (h : s < mid), (m : Int) < en := fun h => by omega
      all_goals have zC2 : ∀ (h : ¬ s < mid), ¬ (m : Int) < en := fun h => by omega
      all_goals have zD1 : ∀ (h : s < m), (mid : Int) < en := fun h => by omega
      all_goals have zD2 : ∀ (h : ¬ s < m), ¬ (mid : Int) < en := fun h => by omega
      all_goals (first | have yA := zA1 hcA | have yA := zA2 hcA)
      all_goals (first | have yB := zB1 hcB | have yB := zB2 hcB)
      all_goals (first | have yC := zC1 hcB | have yC := zC2 hcB)
      all_goals (first | have yD := zD1 hcA | have yD := zD2 hcA)
      all_goals clear zA1 zA2 zB1 zB2 zC1 zC2 zD1 zD2
      all_goals (first | (have HR1 := Lib.hid (HR0.out hcA hcB wr SH.out)) | (have HL1 : Hid (d.toList = (P ++ U1) ++ (V1 ++ (U2 ++ (V2 ++ Q)))) := Lib.hid (by rw [HD1.out, HE1.out (by omega)]; simp [List.append_assoc]); have HZ1 := HN; have HS1 := SH))
      all_goals clear SH HR0
      all_goals go_upto_region 41 with (go_at_call 94; (with_reducible refine HR1.out.mono ?_); (rintro r w2 ⟨rfl, d1, hl1, hz1, hs1⟩); have HL1 := Lib.hid hl1; have HZ1 := Lib.hid hz1; have HS1 := Lib.hid hs1; clear hl1 hz1 hs1 HR1)
      all_goals clear yC
      all_goals by_cases hcC : a < s
      all_goals try (exfalso; omega)
      all_goals have zA1 : ∀ (h : a < s), (a : Int) < s := fun h => by omega
      all_goals have zA2 : ∀ (h : ¬ a < s), ¬ (a : Int) < s := fun h => by omega
      all_goals (first | have yE := zA1 hcC | have yE := zA2 hcC)
      all_goals clear zA1 zA2
      all_goals (first | (have HR2 := Lib.hid (HRL.out _ _ HL1.out HZ1.out HS1.out hcC hcB); clear HL1 HZ1 HS1) | (have HL2 := Lib.hid (app_eqS HL1.out); have HZ2 := HZ1; have HS2 := HS1; have HT2 : Hid (Srt keyR (U1 ++ V1) ∧ Stb keyR (U1 ++ V1) (U1 ++ V1) ∧ (U1 ++ V1).length = mid - a) := Lib.hid ⟨HE2.out (by omega), Stb.refl _, HUVl.out⟩; clear HL1 HZ1 HS1))
      all_goals go_upto_region 43 with (go_at_call 92; (with_reducible refine HR2.out.mono ?_); (rintro r w2 ⟨rfl, d2, N1, hl2, ht2, hb2, hz2, hs2⟩); have HL2 := Lib.hid hl2; have HZ2 := Lib.hid hz2; have HS2 := Lib.hid hs2; have HT2 := Lib.hid (And.intro ht2 (And.intro hb2 (show N1.length = mid - a from hb2.len.trans HUVl.out))); clear hl2 ht2 hb2 hz2 hs2 HR2)
      all_goals clear yE HRL
      all_goals by_cases hcD : en < b
      all_goals try (exfalso; omega)
      all_goals have zA1 : ∀ (h : en < b), (en : Int) < b := fun h => by omega
      all_goals have zA2 : ∀ (h : ¬ en < b), ¬ (en : Int) < b := fun h => by omega
      all_goals (first | have yE := zA1 hcD | have yE := zA2 hcD)
      all_goals clear zA1 zA2
      all_goals (first | (have HR3 := Lib.hid (HRR.out _ _ _ HL2.out HT2.out.2.2 HZ2.out HS2.out hcA hcD); clear HL2 HZ2 HS2) | (have HL3 := Lib.hid (app_eqU HL2.out); have HZ3 := HZ2; have HS3 := HS2; have HT3 : Hid (Srt keyR (U2 ++ V2) ∧ Stb keyR (U2 ++ V2) (U2 ++ V2)) := Lib.hid ⟨HE3.out (by omega), Stb.refl _⟩; clear HL2 HZ2 HS2))
      all_goals go_wp2_with (go_at_call 92; (with_reducible refine HR3.out.mono ?_); (rintro r w2 ⟨rfl, d3, N2, hl3, ht3, hb3, hz3, hs3⟩); have HL3 := Lib.hid (app_eqT hl3); have HZ3 := Lib.hid hz3; have HS3 := Lib.hid hs3; have HT3 := Lib.hid (And.intro ht3 hb3); clear hl3 ht3 hb3 hz3 hs3 HR3)
      all_goals go_end0
      all_goals exact ⟨rfl, _, _, HL3.out, (merge_parts HSU1.out HSV1.out HX1.out HX2.out HT2.out.1 HT3.out.1 HT2.out.2.1 HT3.out.2).1, by rw [HUV.out]; exact (merge_parts HSU1.out HSV1.out HX1.out HX2.out HT2.out.1 HT3.out.1 HT2.out.2.1 HT3.out.2).2, HZ3.out, HS3.out⟩
end

section
open Go.RowKit Go.Sort
set_option linter.unusedVariables false
set_option maxRecDepth 100000
set_option maxHeartbeats 16000000 in
theorem symBC (w0 : World) (blk off cap B : Nat) (d0 : Array Rw) (N : Nat) (R : RW6 w0 blk off d0) (hC : CmpOk w0 blk B) (hs : N = d0.size) (hsz : N < 4611686018427387904) (NN : Nat) (IH0 : SymIH w0 blk off cap B N NN)
    (a m b mid : Nat) (d : Array Rw) (w : World) (P U V Q : List Rw) (hN : d.size = N) (S : SW6 w0 blk off d w) (hd : d.toList = P ++ (U ++ (V ++ Q))) (ha : P.length = a) (hU : a + U.length = m) (hV : m + V.length = b) (hu0 : 2 ≤ U.length) (hv0 : 2 ≤ V.length) (hSU : Srt keyR U) (hSV : Srt keyR V) (hNN : b - a ≤ NN + 1) (hmid : (a + b) / 2 = mid) (hA : m ≤ mid) (hbN : b ≤ N) :
    Calls Try.prog 92 #[.slice (some ⟨blk, off, none⟩) N cap, .int .i64 a, .int .i64 m, .int .i64 b, cmpF B] w (MrgP w0 blk off N P Q (U ++ V)) := by
  have IH := Lib.hid IH0
  clear IH0
  have hVL := hV
  obtain ⟨p, hp⟩ : ∃ p, mid + m - 1 = p := ⟨_, rfl⟩
  have am : a + 2 ≤ m := by omega
  have mb : m + 2 ≤ b := by omega
  have S0 := Lib.hid S
  have HD := Lib.hid hd
  have HN := Lib.hid hN
  have HS := Lib.hid hs
  have HA := Lib.hid ha
  have HSU := Lib.hid hSU
  have HSV := Lib.hid hSV
  have HUM : Hid (∀ i j, a ≤ i → i ≤ j → j < m → ltS d[j]!.s d[i]!.s = false) := Lib.hid (fun i j h1 h2 h3 => srt_at d P U (V ++ Q) hd hSU i j (by omega) h2 (by omega))
  have HVM : Hid (∀ i j, m ≤ i → i ≤ j → j < b → ltS d[j]!.s d[i]!.s = false) := Lib.hid (fun i j h1 h2 h3 => srt_at d (P ++ U) V Q (by rw [hd]; simp [List.append_assoc]) hSV i j (by simp; omega) h2 (by simp; omega))
  have mixed : Try.prog.follows .mixedOrders = true := by kernel_rfl
  have e1 : (((m : Int) - (a : Int)) == 1) = false := by simp; omega
  have e2 : (((b : Int) - (m : Int)) == 1) = false := by simp; omega
  have e3 : ((a : Int) + (b : Int)) / 2 = (mid : Int) := by omega
  have e4 : (mid : Int) + (m : Int) - 1 = (p : Int) := by omega
  have hma : a ≤ mid ∧ mid < b := by omega
  clear S hd hN hs ha hSU hSV
  have hAz : ¬ (mid : Int) < (m : Int) := by omega
  have hsr0 : a ≤ m := by omega
  have HBD : Hid (∀ c, a ≤ c → c < m → a ≤ c ∧ c < m ∧ m ≤ p - c ∧ p - c < b ∧ c ≤ p) := Lib.hid (fun c h1 h2 => by omega)
  go_enter Try.func92, Try.ntmps92
  go_wp2_with fail
  clear e1 e2 e3 e4
  try clear e5
  go_loopw [20, 21] (fun sv rv wr => ∃ (s r : Nat), sv = .int .i64 s ∧ rv = .int .i64 r ∧ a ≤ s ∧ s ≤ r ∧ r ≤ m ∧ Hid (∀ c, a ≤ c → c < s → ltS d[p - c]!.s d[c]!.s = false) ∧ Hid (∀ c, r ≤ c → c < m → ltS d[p - c]!.s d[c]!.s = true) ∧ Hid (SW6 w0 blk off d wr)) (fun sv rv _ => (intOf rv).toNat - (intOf sv).toNat)
  case atStart => exact ⟨a, m, rfl, rfl, Nat.le_refl _, hsr0, Nat.le_refl _, Lib.hid (fun c h1 h2 => by omega), Lib.hid (fun c h1 h2 => by omega), S0⟩
  case round =>
    clear S0
    obtain ⟨s, r, rfl, rfl, hs0, hsr, hr0, HLO, HHI, SH⟩ := hrel
    by_cases hlt : s < r
    · have hltz : (s : Int) < r := by omega
      obtain ⟨c, hc⟩ : ∃ c, (s + r) / 2 = c := ⟨_, rfl⟩
      have hsc : s ≤ c := by omega
      have hcr : c < r := by omega
      have hm : ((s : Int) + (r : Int)) / 2 = (c : Int) := by omega
      have hb4 := HBD.out c (by omega) (by omega)
      obtain ⟨q, hq⟩ : ∃ q, p - c = q := ⟨_, rfl⟩
      have hpq : (p : Int) - (c : Int) = (q : Int) := by omega
      have hpw : IntKind.i64.wrap (q : Int) = (q : Int) := IntWalk.i64_in _ (by omega)
      have hcN : (c : Int) < (N : Int) := by omega
      have hqN : (q : Int) < (N : Int) := by omega
      have hzs : d.size = d0.size := by rw [HN.out]; exact HS.out
      obtain ⟨x, hx⟩ : ∃ x, d[q]! = x := ⟨_, rfl⟩
      obtain ⟨y, hy⟩ : ∃ y, d[c]! = y := ⟨_, rfl⟩
      have cx := SW6.cells2 SH.out R hzs q (by rw [HN.out]; omega) x hx
      have cy := SW6.cells2 SH.out R hzs c (by rw [HN.out]; omega) y hy
      have hcmp := SW6.cmp SH.out hC x y
      have x0 := fun n os => (cx n os).1
      have x1 := fun n os => (cx n os).2.1
      have x2 := fun n os => (cx n os).2.2.1
      have x3 := fun n os => (cx n os).2.2.2.1
      have x4 := fun n os => (cx n os).2.2.2.2.1
      have x5 := fun n os => (cx n os).2.2.2.2.2
      have y0 := fun n os => (cy n os).1
      have y1 := fun n os => (cy n os).2.1
      have y2 := fun n os => (cy n os).2.2.1
      have y3 := fun n os => (cy n os).2.2.2.1
      have y4 := fun n os => (cy n os).2.2.2.2.1
      have y5 := fun n os => (cy n os).2.2.2.2.2
      cases hlv : ltS x.s y.s with
      | true =>
        have hd90 : decide (cfR x y < 0) = true := by unfold cfR; rw [cmpZ_neg]; exact hlv
        have hv90 : cfR x y < 0 := of_decide_eq_true hd90
        have HHI2 : Hid (∀ c', c ≤ c' → c' < m → ltS d[p - c']!.s d[c']!.s = true) := Lib.hid (fun c' h1 h2 => by
          have hb5 := HBD.out c' (by omega) h2
          have k1 := HUM.out c c' (by omega) h1 (by omega)
          have k2 := HVM.out (p - c') q (by omega) (by omega) (by omega)
          rw [hx] at k2
          rw [hy] at k1
          exact ltS_lt_le (ltS_le_lt k2 hlv) k1)
        clear cx cy hx hy hzs hq hc hb4
        go_wp2_with fail
        go_quiet_grown (first | (go_at_call 75; refine Calls.grown_of (hcmp _ _)))
        have S2 : Hid (SW6 w0 blk off d (grow (wr.drewN nq) osq)) := Lib.hid (SWK.grown SH.out nq osq)
        clear x0 x1 x2 x3 x4 x5 y0 y1 y2 y3 y4 y5 hcmp SH
        generalize grow (wr.drewN nq) osq = W9 at S2 ⊢
        clear nq osq
        go_wp2_with fail
        go_roundw
        case rel => exact ⟨s, c, rfl, rfl, hs0, hsc, by omega, HLO, HHI2, S2⟩
        case measure => simp [intOf]; omega
      | false =>
        have hd90 : decide (cfR x y < 0) = false := by unfold cfR; rw [cmpZ_neg]; exact hlv
        have hv90 : ¬ cfR x y < 0 := of_decide_eq_false hd90
        have HLO2 : Hid (∀ c', a ≤ c' → c' < c + 1 → ltS d[p - c']!.s d[c']!.s = false) := Lib.hid (fun c' h1 h2 => by
          have hb5 := HBD.out c' h1 (by omega)
          have k1 := HUM.out c' c (by omega) (by omega) (by omega)
          have k2 := HVM.out q (p - c') (by omega) (by omega) (by omega)
          rw [hx] at k2
          rw [hy] at k1
          exact ltS_le_trans (ltS_le_trans k1 hlv) k2)
        clear cx cy hx hy hzs hq hc hb4
        go_wp2_with fail
        go_quiet_grown (first | (go_at_call 75; refine Calls.grown_of (hcmp _ _)))
        have S2 : Hid (SW6 w0 blk off d (grow (wr.drewN nq) osq)) := Lib.hid (SWK.grown SH.out nq osq)
        clear x0 x1 x2 x3 x4 x5 y0 y1 y2 y3 y4 y5 hcmp SH
        generalize grow (wr.drewN nq) osq = W9 at S2 ⊢
        clear nq osq
        go_wp2_with fail
        go_roundw
        case rel => exact ⟨c + 1, r, by go_num, rfl, by omega, by omega, hr0, HLO2, HHI, S2⟩
        case measure => simp [intOf]; omega
    · obtain rfl : s = r := by omega
      obtain ⟨U1, U2, hU12, hU1⟩ : ∃ U1 U2, U = U1 ++ U2 ∧ U1.length = s - a := ⟨U.take (s - a), U.drop (s - a), (List.take_append_drop _ _).symm, by simp; omega⟩
      obtain ⟨en, hen⟩ : ∃ en, mid + m - s = en := ⟨_, rfl⟩
      have hez : (mid : Int) + (m : Int) - (s : Int) = (en : Int) := by omega
      obtain ⟨V1, V2, hV12, hV1⟩ : ∃ V1 V2, V = V1 ++ V2 ∧ V1.length = en - m := ⟨V.take (en - m), V.drop (en - m), (List.take_append_drop _ _).symm, by simp; omega⟩
      have hUl : U1.length + U2.length = m - a := by rw [hU12] at hU; simp at hU; omega
      have hVl : V1.length + V2.length = b - m := by rw [hV12] at hV; simp at hV; omega
      have HX1 : Hid (∀ u ∈ U2, ∀ v ∈ V1, ltS v.s u.s = true) := Lib.hid (fun u hu v hv => by
        obtain ⟨i, hi1, hi2, rfl⟩ := mem_at d (P ++ U1) U2 (V1 ++ (V2 ++ Q)) (by rw [HD.out, hU12, hV12]; simp [List.append_assoc]) u hu
        obtain ⟨j, hj1, hj2, rfl⟩ := mem_at d (P ++ (U1 ++ U2)) V1 (V2 ++ Q) (by rw [HD.out, hU12, hV12]; simp [List.append_assoc]) v hv
        have := HA.out
        simp at hi1 hi2 hj1 hj2
        have k0 := HHI.out s (Nat.le_refl _) (by omega)
        have k1 := HUM.out s i (by omega) (by omega) (by omega)
        have k2 := HVM.out j (p - s) (by omega) (by omega) (by omega)
        exact ltS_lt_le (ltS_le_lt k2 k0) k1)
      have HX2 : Hid (∀ u ∈ U1, ∀ v ∈ V2, ltS v.s u.s = false) := Lib.hid (fun u hu v hv => by
        obtain ⟨i, hi1, hi2, rfl⟩ := mem_at d P U1 (U2 ++ (V1 ++ (V2 ++ Q))) (by rw [HD.out, hU12, hV12]; simp [List.append_assoc]) u hu
        obtain ⟨j, hj1, hj2, rfl⟩ := mem_at d (P ++ (U1 ++ (U2 ++ V1))) V2 Q (by rw [HD.out, hU12, hV12]; simp [List.append_assoc]) v hv
        have := HA.out
        simp at hi1 hi2 hj1 hj2
        have k0 := HLO.out (s - 1) (by omega) (by omega)
        have k1 := HUM.out i (s - 1) (by omega) (by omega) (by omega)
        have k2 := HVM.out (p - (s - 1)) j (by omega) (by omega) (by omega)
        exact ltS_le_trans (ltS_le_trans k1 k0) k2)
      have HSU1 : Hid (Srt keyR (U1 ++ U2)) := Lib.hid (by rw [← hU12]; exact HSU.out)
      have HSV1 : Hid (Srt keyR (V1 ++ V2)) := Lib.hid (by rw [← hV12]; exact HSV.out)
      have HD1 : Hid (d.toList = P ++ (U1 ++ (U2 ++ (V1 ++ (V2 ++ Q))))) := Lib.hid (by rw [HD.out, hU12, hV12]; simp [List.append_assoc])
      have HUV : Hid (U ++ V = (U1 ++ U2) ++ (V1 ++ V2)) := Lib.hid (by rw [hU12, hV12])
      have HR0 : Hid (s < m → s < mid → ∀ W, SW6 w0 blk off d W → Calls Try.prog 94 #[.slice (some ⟨blk, off, none⟩) N cap, .int .i64 s, .int .i64 m, .int .i64 en, cmpF B] W fun e w' => e = .returned (.tuple #[]) ∧ ∃ d' : Array Rw, d'.toList = (P ++ U1) ++ (V1 ++ (U2 ++ (V2 ++ Q))) ∧ d'.size = N ∧ SW6 w0 blk off d' w') := Lib.hid (fun h1 h2 W hW =>
        rotateC w0 blk off cap s m en d0 d (cmpF B) N W R (by rw [HN.out]; exact HS.out) HN.out hW (P ++ U1) U2 V1 (V2 ++ Q) (by rw [HD1.out]; simp [List.append_assoc]) (by have := HA.out; simp; omega) (by omega) (by omega) (by omega) (by omega) (by rw [HN.out]; exact hsz))
      have HRL : Hid (∀ d1 W, d1.toList = (P ++ U1) ++ (V1 ++ (U2 ++ (V2 ++ Q))) → d1.size = N → SW6 w0 blk off d1 W → a < s → s < mid → Calls Try.prog 92 #[.slice (some ⟨blk, off, none⟩) N cap, .int .i64 a, .int .i64 s, .int .i64 mid, cmpF B] W (MrgP w0 blk off N P (U2 ++ (V2 ++ Q)) (U1 ++ V1))) := Lib.hid (fun d1 W k1 k2 k3 k4 k5 =>
        IH.out a s mid d1 W P U1 V1 (U2 ++ (V2 ++ Q)) k2 k3 (by rw [k1]; simp [List.append_assoc]) HA.out (by omega) (by omega) (by omega) (by omega) (Srt.app.1 HSU1.out).1 (Srt.app.1 HSV1.out).1 (by omega))
      have HRR : Hid (∀ d1 W (N1 : List Rw), d1.toList = P ++ (N1 ++ (U2 ++ (V2 ++ Q))) → N1.length = mid - a → d1.size = N → SW6 w0 blk off d1 W → s < m → en < b → Calls Try.prog 92 #[.slice (some ⟨blk, off, none⟩) N cap, .int .i64 mid, .int .i64 en, .int .i64 b, cmpF B] W (MrgP w0 blk off N (P ++ N1) Q (U2 ++ V2))) := Lib.hid (fun d1 W N1 k1 kl k2 k3 k4 k5 =>
        IH.out mid en b d1 W (P ++ N1) U2 V2 Q k2 k3 (by rw [k1]; simp [List.append_assoc]) (by have := HA.out; simp; omega) (by omega) (by omega) (by omega) (by omega) (Srt.app.1 HSU1.out).2.1 (Srt.app.1 HSV1.out).2.1 (by omega))
      have HE1 : Hid (¬ (s < m ∧ s < mid) → U2 ++ (V1 ++ (V2 ++ Q)) = V1 ++ (U2 ++ (V2 ++ Q))) := Lib.hid (fun h => by
        by_cases h5 : s < m
        · obtain rfl : V1 = [] := List.eq_nil_of_length_eq_zero (by omega)
          rfl
        · obtain rfl : U2 = [] := List.eq_nil_of_length_eq_zero (by omega)
          rfl)
      have HE2 : Hid (¬ (a < s ∧ s < mid) → Srt keyR (U1 ++ V1)) := Lib.hid (fun h => by
        by_cases h5 : a < s
        · obtain rfl : V1 = [] := List.eq_nil_of_length_eq_zero (by omega)
          simpa using (Srt.app.1 HSU1.out).1
        · obtain rfl : U1 = [] := List.eq_nil_of_length_eq_zero (by omega)
          exact (Srt.app.1 HSV1.out).1)
      have HE3 : Hid (¬ (s < m ∧ en < b) → Srt keyR (U2 ++ V2)) := Lib.hid (fun h => by
        by_cases h5 : s < m
        · obtain rfl : V2 = [] := List.eq_nil_of_length_eq_zero (by omega)
          simpa using (Srt.app.1 HSU1.out).2.1
        · obtain rfl : U2 = [] := List.eq_nil_of_length_eq_zero (by omega)
          exact (Srt.app.1 HSV1.out).2.1)
      have HUVl : Hid ((U1 ++ V1).length = mid - a) := Lib.hid (by simp; omega)
      have HU1 := Lib.hid hU1
      have HU2 := Lib.hid hUl
      have HV1 := Lib.hid hV1
      have HV2 := Lib.hid hVl
      clear hU12 hV12 HUM HVM HBD HLO HHI IH hlt HSU HSV hU1 hUl hV1 hVl
      by_cases hcA : s < m
      all_goals by_cases hcB : s < mid
      all_goals try (exfalso; omega)
      all_goals have zA1 : ∀ (h : s < m), (s : Int) < m := fun h => by omega
      all_goals have zA2 : ∀ (h : ¬ s < m), ¬ (s : Int) < m := fun h => by omega
      all_goals have zB1 : ∀ (h : s < mid), (s : Int) < mid := fun h => by omega
      all_goals have zB2 : ∀ (h : ¬ s < mid), ¬ (s : Int) < mid := fun h => by omega
      all_goals have zC1 : ∀ (h : s < mid), (m : Int) < en := fun h => by omega
      all_goals have zC2 : ∀ (h : ¬ s < mid), ¬ (m : Int) < en := fun h => by omega
      all_goals have zD1 : ∀ (h : s < m), (mid : Int) < en := fun h => by omega
      all_goals have zD2 : ∀ (h : ¬ s < m), ¬ (mid : Int) < en := fun h => by omega
      all_goals (first | have yA := zA1 hcA | have yA := zA2 hcA)
      all_goals (first | have yB := zB1 hcB | have yB := zB2 hcB)
      all_goals (first | have yC := zC1 hcB | have yC := zC2 hcB)
      all_goals (first | have yD := zD1 hcA | have yD := zD2 hcA)
      all_goals clear zA1 zA2 zB1 zB2 zC1 zC2 zD1 zD2
      all_goals (first | (have HR1 := Lib.hid (HR0.out hcA hcB wr SH.out)) | (have HL1 : Hid (d.toList = (P ++ U1) ++ (V1 ++ (U2 ++ (V2 ++ Q)))) := Lib.hid (by rw [HD1.out, HE1.out (by omega)]; simp [List.append_assoc]); have HZ1 := HN; have HS1 := SH))
      all_goals clear SH HR0
      all_goals go_upto_region 41 with (go_at_call 94; (with_reducible refine HR1.out.mono ?_); (rintro r w2 ⟨rfl, d1, hl1, hz1, hs1⟩); have HL1 := Lib.hid hl1; have HZ1 := Lib.hid hz1; have HS1 := Lib.hid hs1; clear hl1 hz1 hs1 HR1)
      all_goals clear yC
      all_goals by_cases hcC : a < s
      all_goals try (exfalso; omega)
      all_goals have zA1 : ∀ (h : a < s), (a : Int) < s := fun h => by omega
      all_goals have zA2 : ∀ (h : ¬ a < s), ¬ (a : Int) < s := fun h => by omega
      all_goals (first | have yE := zA1 hcC | have yE := zA2 hcC)
      all_goals clear zA1 zA2
      all_goals (first | (have HR2 := Lib.hid (HRL.out _ _ HL1.out HZ1.out HS1.out hcC hcB); clear HL1 HZ1 HS1) | (have HL2 := Lib.hid (app_eqS HL1.out); have HZ2 := HZ1; have HS2 := HS1; have HT2 : Hid (Srt keyR (U1 ++ V1) ∧ Stb keyR (U1 ++ V1) (U1 ++ V1) ∧ (U1 ++ V1).length = mid - a) := Lib.hid ⟨HE2.out (by omega), Stb.refl _, HUVl.out⟩; clear HL1 HZ1 HS1))
      all_goals go_upto_region 43 with (go_at_call 92; (with_reducible refine HR2.out.mono ?_); (rintro r w2 ⟨rfl, d2, N1, hl2, ht2, hb2, hz2, hs2⟩); have HL2 := Lib.hid hl2; have HZ2 := Lib.hid hz2; have HS2 := Lib.hid hs2; have HT2 := Lib.hid (And.intro ht2 (And.intro hb2 (show N1.length = mid - a from hb2.len.trans HUVl.out))); clear hl2 ht2 hb2 hz2 hs2 HR2)
      all_goals clear yE HRL
      all_goals by_cases hcD : en < b
      all_goals try (exfalso; omega)
      all_goals have zA1 : ∀ (h : en < b), (en : Int) < b := fun h => by omega
      all_goals have zA2 : ∀ (h : ¬ en < b), ¬ (en : Int) < b := fun h => by omega
      all_goals (first | have yE := zA1 hcD | have yE := zA2 hcD)
      all_goals clear zA1 zA2
      all_goals (first | (have HR3 := Lib.hid (HRR.out _ _ _ HL2.out HT2.out.2.2 HZ2.out HS2.out hcA hcD); clear HL2 HZ2 HS2) | (have HL3 := Lib.hid (app_eqU HL2.out); have HZ3 := HZ2; have HS3 := HS2; have HT3 : Hid (Srt keyR (U2 ++ V2) ∧ Stb keyR (U2 ++ V2) (U2 ++ V2)) := Lib.hid ⟨HE3.out (by omega), Stb.refl _⟩; clear HL2 HZ2 HS2))
      all_goals go_wp2_with (go_at_call 92; (with_reducible refine HR3.out.mono ?_); (rintro r w2 ⟨rfl, d3, N2, hl3, ht3, hb3, hz3, hs3⟩); have HL3 := Lib.hid (app_eqT hl3); have HZ3 := Lib.hid hz3; have HS3 := Lib.hid hs3; have HT3 := Lib.hid (And.intro ht3 hb3); clear hl3 ht3 hb3 hz3 hs3 HR3)
      all_goals go_end0
      all_goals exact ⟨rfl, _, _, HL3.out, (merge_parts HSU1.out HSV1.out HX1.out HX2.out HT2.out.1 HT3.out.1 HT2.out.2.1 HT3.out.2).1, by rw [HUV.out]; exact (merge_parts HSU1.out HSV1.out HX1.out HX2.out HT2.out.1 HT3.out.1 HT2.out.2.1 HT3.out.2).2, HZ3.out, HS3.out⟩
end

section
open Go.RowKit Go.Sort
set_option linter.unusedVariables false
set_option maxRecDepth 100000
theorem symC (w0 : World) (blk off cap B : Nat) (d0 : Array Rw) (N : Nat) (R : RW6 w0 blk off d0) (hC : CmpOk w0 blk B) (hs : N = d0.size) (hsz : N < 4611686018427387904) : ∀ NN : Nat, SymIH w0 blk off cap B N NN
  | 0 => by
    intro a m b d w P U V Q hN S hd ha hU hV hu0 hv0 hSU hSV hNN
    omega
  | NN + 1 => by
    intro a m b d w P U V Q hN S hd ha hU hV hu0 hv0 hSU hSV hNN
    have IH := symC w0 blk off cap B d0 N R hC hs hsz NN
    by_cases hu1 : U.length = 1
    · obtain ⟨u, rfl⟩ : ∃ u, U = [u] := List.length_eq_one_iff.1 hu1
      have := symLC w0 blk off cap a b B d0 d N w R hC (by omega) hN S P V Q u hd ha (by simp at hU; omega) hSV (by omega)
      rw [show ((m : Nat) : Int) = (a : Int) + 1 by simp at hU; omega]
      exact this
    · by_cases hv1 : V.length = 1
      · obtain ⟨v, rfl⟩ : ∃ v, V = [v] := List.length_eq_one_iff.1 hv1
        have := symRC w0 blk off cap a m B d0 d N w R hC (by omega) hN S P U Q v hd ha hU (by omega) hSU (by omega)
        rw [show ((b : Nat) : Int) = (m : Int) + 1 by simp at hV; omega]
        exact this
      · have hbN : b ≤ N := by
          have := size_split d _ hd
          simp at this; omega
        rcases Nat.lt_or_ge ((a + b) / 2) m with hA | hA
        · exact symAC w0 blk off cap B d0 N R hC hs hsz NN IH a m b _ d w P U V Q hN S hd ha hU hV (by omega) (by omega) hSU hSV hNN rfl hA hbN
        · exact symBC w0 blk off cap B d0 N R hC hs hsz NN IH a m b _ d w P U V Q hN S hd ha hU hV (by omega) (by omega) hSU hSV hNN rfl hA hbN
/-- Blocks of a length, each rising; a shorter one behind them. -/
def Blk (bs : Nat) (L : List Rw) : Prop := ∃ (Xs : List (List Rw)) (Y : List Rw), L = Xs.flatten ++ Y ∧ (∀ X ∈ Xs, X.length = bs ∧ Srt keyR X) ∧ Y.length < bs ∧ Srt keyR Y
theorem flat_len {bs : Nat} : ∀ (Xs : List (List Rw)), (∀ X ∈ Xs, X.length = bs ∧ Srt keyR X) → Xs.flatten.length = Xs.length * bs
  | [], _ => by simp
  | X :: Xs, h => by
    have := flat_len Xs (fun Y hY => h Y (by simp [hY]))
    have h1 := (h X (by simp)).1
    rw [List.flatten_cons, List.length_append, this, h1, List.length_cons, Nat.add_mul]; omega
theorem Blk.two {bs : Nat} {L : List Rw} (h : Blk bs L) (hl : 2 * bs ≤ L.length) : ∃ X1 X2 T, L = X1 ++ (X2 ++ T) ∧ X1.length = bs ∧ X2.length = bs ∧ Srt keyR X1 ∧ Srt keyR X2 ∧ Blk bs T := by
  obtain ⟨Xs, Y, rfl, hX, hY, hS⟩ := h
  have hf := flat_len Xs hX
  match Xs, hX, hf, hl with
  | [], hX, hf, hl => simp at hl; omega
  | [X], hX, hf, hl => simp at hl hf; omega
  | X1 :: X2 :: T, hX, hf, hl =>
    exact ⟨X1, X2, T.flatten ++ Y, by simp [List.append_assoc], (hX X1 (by simp)).1, (hX X2 (by simp)).1, (hX X1 (by simp)).2, (hX X2 (by simp)).2, T, Y, rfl, fun X h => hX X (by simp [h]), hY, hS⟩
theorem Blk.one {bs : Nat} {L : List Rw} (h : Blk bs L) (hl : L.length ≤ bs) : Srt keyR L := by
  obtain ⟨Xs, Y, rfl, hX, hY, hS⟩ := h
  have hf := flat_len Xs hX
  match Xs, hX, hf, hl with
  | [], hX, hf, hl => simpa using hS
  | [X], hX, hf, hl =>
    simp at hl hf
    have : Y = [] := List.eq_nil_of_length_eq_zero (by omega)
    subst this
    simpa using (hX X (by simp)).2
  | X1 :: X2 :: T, hX, hf, hl => simp [Nat.add_mul] at hl hf; omega
theorem Blk.mid {bs : Nat} {L : List Rw} (h : Blk bs L) (hl : bs < L.length) (hl2 : L.length < 2 * bs) : ∃ X Y, L = X ++ Y ∧ X.length = bs ∧ 0 < Y.length ∧ Srt keyR X ∧ Srt keyR Y := by
  obtain ⟨Xs, Y, rfl, hX, hY, hS⟩ := h
  have hf := flat_len Xs hX
  match Xs, hX, hf, hl, hl2 with
  | [], hX, hf, hl, _ => simp at hl; omega
  | [X], hX, hf, hl, _ =>
    simp at hl hf
    exact ⟨X, Y, by simp, (hX X (by simp)).1, by omega, (hX X (by simp)).2, hS⟩
  | X1 :: X2 :: T, hX, hf, _, hl => simp [Nat.add_mul] at hl hf; omega
/-- Blocks alone. -/
def Blks (bs : Nat) (L : List Rw) : Prop := ∃ Xs : List (List Rw), L = Xs.flatten ∧ ∀ X ∈ Xs, X.length = bs ∧ Srt keyR X
theorem Blks.nil (bs : Nat) : Blks bs [] := ⟨[], rfl, fun _ h => by cases h⟩
theorem Blks.snoc {bs : Nat} {L X : List Rw} (h : Blks bs L) (hX : X.length = bs) (hS : Srt keyR X) : Blks bs (L ++ X) := by
  obtain ⟨Xs, rfl, hXs⟩ := h
  exact ⟨Xs ++ [X], by simp, fun Z hZ => by
    rcases List.mem_append.1 hZ with hZ | hZ
    · exact hXs Z hZ
    · simp at hZ; subst hZ; exact ⟨hX, hS⟩⟩
theorem Blks.last {bs : Nat} {L Y : List Rw} (h : Blks bs L) (hY : Y.length < bs) (hS : Srt keyR Y) : Blk bs (L ++ Y) := by
  obtain ⟨Xs, rfl, hXs⟩ := h
  exact ⟨Xs, Y, rfl, hXs, hY, hS⟩
theorem symI (w0 : World) (blk off cap B : Nat) (d0 : Array Rw) (N : Nat) (R : RW6 w0 blk off d0) (hC : CmpOk w0 blk B) (hs : N = d0.size) (hsz : N < 4611686018427387904) (a m b : Nat) (mz bz : Int) (hmz : mz = m) (hbz : bz = b) (d : Array Rw) (w : World) (P U V Q : List Rw) (hN : d.size = N) (S : SW6 w0 blk off d w) (hd : d.toList = P ++ (U ++ (V ++ Q))) (ha : P.length = a) (hU : a + U.length = m) (hV : m + V.length = b) (h1 : 0 < U.length) (h2 : 0 < V.length) (s1 : Srt keyR U) (s2 : Srt keyR V) :
    Calls Try.prog 92 #[.slice (some ⟨blk, off, none⟩) N cap, .int .i64 a, .int .i64 mz, .int .i64 bz, cmpF B] w (MrgP w0 blk off N P Q (U ++ V)) := by
  subst hmz hbz
  exact symC w0 blk off cap B d0 N R hC hs hsz _ a m b d w P U V Q hN S hd ha hU hV h1 h2 s1 s2 (Nat.le_refl _)
theorem insertI (w0 : World) (blk off cap a b B : Nat) (bz : Int) (hbz : bz = b) (d0 d : Array Rw) (N : Nat) (w : World) (R : RW6 w0 blk off d0) (hC : CmpOk w0 blk B) (hs : d.size = d0.size) (hN : d.size = N) (S : SW6 w0 blk off d w) (P U Q : List Rw) (hd : d.toList = P ++ (U ++ Q)) (ha : P.length = a) (hU : a + U.length = b) (hsz : d.size < 4611686018427387904) :
    Calls Try.prog 91 #[.slice (some ⟨blk, off, none⟩) N cap, .int .i64 a, .int .i64 bz, cmpF B] w fun e w' => e = .returned (.tuple #[]) ∧ ∃ (d' : Array Rw) (U' : List Rw), d'.toList = P ++ (U' ++ Q) ∧ Srt keyR U' ∧ Stb keyR U U' ∧ d'.size = N ∧ SW6 w0 blk off d' w' := by
  subst hbz
  exact insertC w0 blk off cap a b B d0 d N w R hC hs hN S P U Q hd ha hU hsz
set_option maxHeartbeats 16000000 in
theorem stableC (w0 : World) (blk off cap B : Nat) (d0 d : Array Rw) (N : Nat) (w : World) (R : RW6 w0 blk off d0) (hC : CmpOk w0 blk B) (hs : N = d0.size) (hN : d.size = N) (S : SW6 w0 blk off d w) (hsz : N < 1000000000000) :
    Calls Try.prog 86 #[.slice (some ⟨blk, off, none⟩) N cap, .int .i64 N, cmpF B] w fun e w' => e = .returned (.tuple #[]) ∧ ∃ d' : Array Rw, Srt keyR d'.toList ∧ Stb keyR d.toList d'.toList ∧ d'.size = N ∧ SW6 w0 blk off d' w' := by
  obtain ⟨L0, hL0⟩ : ∃ L0, d.toList = L0 := ⟨_, rfl⟩
  have hlen : L0.length = N := by rw [← hL0]; simpa using hN
  rw [hL0]
  have S0 := Lib.hid S
  have HD := Lib.hid hL0
  have HN := Lib.hid hN
  have HS := Lib.hid hs
  have HL0 := Lib.hid hlen
  clear S hs hN hL0 hlen
  go_enter Try.func86, Try.ntmps86
  go_wp2_with fail
  go_loopw [7, 8] (fun av bv wr => ∃ (a : Nat) (D T : List Rw) (dk : Array Rw), av = .int .i64 a ∧ bv = .int .i64 ((a : Int) + 20) ∧ a ≤ N ∧ Hid (D.length = a) ∧ Hid (a + T.length = N) ∧ Hid (dk.toList = D ++ T) ∧ Hid (Blks 20 D) ∧ Hid (Stb keyR L0 (D ++ T)) ∧ Hid (dk.size = N) ∧ Hid (SW6 w0 blk off dk wr)) (fun av _ _ => N - (intOf av).toNat)
  case atStart => exact ⟨0, [], L0, d, rfl, rfl, Nat.zero_le _, Lib.hid rfl, Lib.hid (by rw [HL0.out]; simp), HD, Lib.hid (Blks.nil _), Lib.hid (Stb.refl _), HN, S0⟩
  case round =>
    clear S0
    obtain ⟨a, D, T, dk, rfl, rfl, haN, HDL, HTL, HL, HB, HST, HZ, SH⟩ := hrel
    by_cases hlt : a + 20 ≤ N
    · have hltz : (a : Int) + 20 ≤ (N : Int) := by omega
      obtain ⟨X, T2, rfl, hX⟩ : ∃ X T2, T = X ++ T2 ∧ X.length = 20 := ⟨T.take 20, T.drop 20, (List.take_append_drop _ _).symm, by have := HTL.out; simp; omega⟩
      have HIN := Lib.hid (insertI w0 blk off cap a (a + 20) B ((a : Int) + 20) (by omega) d0 dk N wr R hC (by rw [HZ.out]; exact HS.out) HZ.out SH.out D X T2 (by rw [HL.out]) HDL.out (by omega) (by rw [HZ.out]; omega))
      have HXL := Lib.hid hX
      clear hX SH
      go_wp2_with (go_at_call 91; (with_reducible refine HIN.out.mono ?_); (rintro r w2 ⟨rfl, d1, X1, hl1, hs1, hb1, hz1, hw1⟩); have HL1 := Lib.hid hl1; have HS1 := Lib.hid hs1; have HB1 := Lib.hid hb1; have HZ1 := Lib.hid hz1; have HW1 := Lib.hid hw1; clear hl1 hs1 hb1 hz1 hw1 HIN)
      go_roundw
      case rel => exact ⟨a + 20, D ++ X1, T2, d1, by go_num, by first | rfl | go_num, by omega, Lib.hid (by have := HB1.out.len; have := HXL.out; have := HDL.out; simp; omega), Lib.hid (by have := HTL.out; have := HXL.out; simp at *; omega), Lib.hid (by rw [HL1.out]; simp [List.append_assoc]), Lib.hid (HB.out.snoc (by rw [HB1.out.len]; exact HXL.out) HS1.out), Lib.hid (by rw [List.append_assoc]; exact HST.out.trans ((Stb.refl D).app (HB1.out.app (Stb.refl T2)))), HZ1, HW1⟩
      case measure => simp [intOf]; omega
    · have hltz : ¬ (a : Int) + 20 ≤ (N : Int) := by omega
      have HIN := Lib.hid (insertI w0 blk off cap a N B N rfl d0 dk N wr R hC (by rw [HZ.out]; exact HS.out) HZ.out SH.out D T [] (by rw [HL.out]; simp) HDL.out HTL.out (by rw [HZ.out]; omega))
      clear SH
      go_wp2_with (go_at_call 91; (with_reducible refine HIN.out.mono ?_); (rintro r w2 ⟨rfl, d1, X1, hl1, hs1, hb1, hz1, hw1⟩); have HL1 := Lib.hid hl1; have HS1 := Lib.hid hs1; have HB1 := Lib.hid hb1; have HZ1 := Lib.hid hz1; have HW1 := Lib.hid hw1; clear hl1 hs1 hb1 hz1 hw1 HIN)
      have HBK : Hid (Blk 20 (D ++ X1)) := Lib.hid (HB.out.last (by rw [HB1.out.len]; have := HTL.out; omega) HS1.out)
      have HST1 : Hid (Stb keyR L0 (D ++ X1)) := Lib.hid (HST.out.trans ((Stb.refl D).app HB1.out))
      have HLL : Hid (d1.toList = D ++ X1) := Lib.hid (by rw [HL1.out]; simp)
      clear HL1 HS1 HB1 HDL HTL HL HB HST HZ hlt hltz
      go_loopw [6] (fun sv wr => ∃ (bs : Nat) (dk : Array Rw), sv = .int .i64 bs ∧ 20 ≤ bs ∧ bs < 4000000000000 ∧ Hid (Blk bs dk.toList) ∧ Hid (Stb keyR L0 dk.toList) ∧ Hid (dk.size = N) ∧ Hid (SW6 w0 blk off dk wr)) (fun sv _ => N - (intOf sv).toNat)
      case atStart => exact ⟨20, d1, rfl, by omega, by omega, Lib.hid (by rw [HLL.out]; exact HBK.out), Lib.hid (by rw [HLL.out]; exact HST1.out), HZ1, HW1⟩
      case round =>
        clear HZ1 HW1 HLL HBK HST1
        obtain ⟨bs, dk, rfl, hb20, hbm, HBK, HST, HZ, SH⟩ := hrel
        by_cases hlt : bs < N
        · have hltz : (bs : Int) < (N : Int) := by omega
          go_wp2_with fail
          go_loopw [7, 8] (fun av bv wr => ∃ (a : Nat) (D T : List Rw) (dk : Array Rw), av = .int .i64 a ∧ bv = .int .i64 ((a : Int) + 2 * (bs : Int)) ∧ a ≤ N ∧ Hid (D.length = a) ∧ Hid (a + T.length = N) ∧ Hid (dk.toList = D ++ T) ∧ Hid (Blks (2 * bs) D) ∧ Hid (Blk bs T) ∧ Hid (Stb keyR L0 (D ++ T)) ∧ Hid (dk.size = N) ∧ Hid (SW6 w0 blk off dk wr)) (fun av _ _ => N - (intOf av).toNat)
          case atStart => exact ⟨0, [], dk.toList, dk, rfl, by simp, Nat.zero_le _, Lib.hid rfl, Lib.hid (by simpa using HZ.out), Lib.hid rfl, Lib.hid (Blks.nil _), HBK, HST, HZ, SH⟩
          case round =>
            clear SH HZ HST HBK
            obtain ⟨a, D, T, dk, rfl, rfl, haN, HDL, HTL, HL, HB, HBK, HST, HZ, SH⟩ := hrel
            by_cases hlt2 : a + 2 * bs ≤ N
            · have hltz2 : (a : Int) + 2 * (bs : Int) ≤ (N : Int) := by omega
              obtain ⟨X1, X2, T2, hT, hX1, hX2, hS1, hS2, hB2⟩ := HBK.out.two (by have := HTL.out; omega)
              have HIN := Lib.hid (symI w0 blk off cap B d0 N R hC HS.out (by omega) a (a + bs) (a + 2 * bs) ((a : Int) + bs) ((a : Int) + 2 * (bs : Int)) (by omega) (by omega) dk wr D X1 X2 T2 HZ.out SH.out (by rw [HL.out, hT]) HDL.out (by omega) (by omega) (by omega) (by omega) hS1 hS2)
              have HT := Lib.hid hT
              have HX1 := Lib.hid hX1
              have HX2 := Lib.hid hX2
              have HB2 := Lib.hid hB2
              clear hT hX1 hX2 hS1 hS2 hB2 SH
              go_wp2_with (go_at_call 92; (with_reducible refine HIN.out.mono ?_); (rintro r w2 ⟨rfl, d2, N1, hl1, hs1, hb1, hz1, hw1⟩); have HL1 := Lib.hid hl1; have HS1 := Lib.hid hs1; have HB1 := Lib.hid hb1; have HZ1 := Lib.hid hz1; have HW1 := Lib.hid hw1; clear hl1 hs1 hb1 hz1 hw1 HIN)
              go_roundw
              case rel => exact ⟨a + 2 * bs, D ++ N1, T2, d2, by first | go_num | exact int_eq (by omega), by first | rfl | go_num | exact int_eq (by omega), by omega, Lib.hid (by have := HB1.out.len; have := HX1.out; have := HX2.out; have := HDL.out; simp at *; omega), Lib.hid (by have h1 := HTL.out; rw [HT.out] at h1; have := HX1.out; have := HX2.out; simp at *; omega), Lib.hid (by rw [HL1.out]; simp [List.append_assoc]), Lib.hid (HB.out.snoc (by rw [HB1.out.len]; have := HX1.out; have := HX2.out; simp; omega) HS1.out), HB2, Lib.hid (by have := HST.out.trans ((Stb.refl D).app (show Stb keyR T (N1 ++ T2) from (by rw [HT.out, ← List.append_assoc]; exact HB1.out.app (Stb.refl T2)))); simpa [List.append_assoc] using this), HZ1, HW1⟩
              case measure => simp [intOf]; omega
            · have hltz2 : ¬ (a : Int) + 2 * (bs : Int) ≤ (N : Int) := by omega
              by_cases hm : a + bs < N
              · have hmz : (a : Int) + (bs : Int) < (N : Int) := by omega
                obtain ⟨X1, X2, hT, hX1, hX2, hS1, hS2⟩ := HBK.out.mid (by have := HTL.out; omega) (by have := HTL.out; omega)
                have HIN := Lib.hid (symI w0 blk off cap B d0 N R hC HS.out (by omega) a (a + bs) N ((a : Int) + bs) N (by omega) rfl dk wr D X1 X2 [] HZ.out SH.out (by rw [HL.out, hT]; simp) HDL.out (by omega) (by have h1 := HTL.out; rw [hT] at h1; simp at h1; omega) (by omega) (by omega) hS1 hS2)
                have HT := Lib.hid hT
                clear hT hX1 hX2 hS1 hS2 SH
                go_wp2_with (go_at_call 92; (with_reducible refine HIN.out.mono ?_); (rintro r w2 ⟨rfl, d2, N1, hl1, hs1, hb1, hz1, hw1⟩); have HL1 := Lib.hid hl1; have HS1 := Lib.hid hs1; have HB1 := Lib.hid hb1; have HZ1 := Lib.hid hz1; have HW1 := Lib.hid hw1; clear hl1 hs1 hb1 hz1 hw1 HIN)
                go_roundw
                case rel => exact ⟨2 * bs, d2, by first | go_num | exact int_eq (by omega), by omega, by omega, Lib.hid (by rw [HL1.out, List.append_nil]; exact HB.out.last (by rw [HB1.out.len, ← HT.out]; have := HTL.out; omega) HS1.out), Lib.hid (by rw [HL1.out, List.append_nil]; exact HST.out.trans ((Stb.refl D).app (by rw [HT.out]; exact HB1.out))), HZ1, HW1⟩
                case measure => simp [intOf]; omega
              · have hmz : ¬ (a : Int) + (bs : Int) < (N : Int) := by omega
                have hS1 := HBK.out.one (by have := HTL.out; omega)
                have HS1 := Lib.hid hS1
                clear hS1
                go_wp2_with fail
                go_roundw
                case rel => exact ⟨2 * bs, dk, by first | go_num | exact int_eq (by omega), by omega, by omega, Lib.hid (by rw [HL.out]; exact HB.out.last (by have := HTL.out; omega) HS1.out), Lib.hid (by rw [HL.out]; exact HST.out), HZ, SH⟩
                case measure => simp [intOf]; omega
        · have hltz : ¬ (bs : Int) < (N : Int) := by omega
          go_wp2_with fail
          go_end0
          exact ⟨rfl, dk, HBK.out.one (by have := HZ.out; simp; omega), HST.out, HZ.out, SH.out⟩
end
end Go.Proofs.Ytdkmomdioiipjaa
