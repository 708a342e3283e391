/- Contracts of functions that the law calls, and what they lean on (a part). -/
import Derived.Test.YtdkmomdioiipjaaCmy13
import Derived.Test.YtdkmomdioiipjaaCmy15
namespace Go.Proofs.Ytdkmomdioiipjaa
section
open Go.RowKit
set_option linter.unusedVariables false
set_option maxRecDepth 100000
/-- Cells that lie from a place on. -/
def CellsAt (w : World) (g o : Nat) (cs : List Value) : Prop := ∀ j u, cs[j]? = some u → w.cell? ⟨g, o + j, none⟩ = some u
theorem run_anew (t e : TypeId) (i : TypeInfo) (z : Value) (size bytes : Nat) (ht : Try.prog.underlying t = some (.slice e)) (hi : Try.prog.info? e = some i) (hz : i.zero = some z) (hsize : i.size = size) (hby : i.bytes = bytes) (hzs : z.cells.size = size) (hsz : 0 < size)
    (w : World) (A : Option Addr) (n c : Nat) (cs : List Value) (hl : cs.length = n * size) (hA : 0 < n → ∃ g o, A = some ⟨g, o, none⟩ ∧ CellsAt w g o cs) (h1 : ∀ u ∈ cs, u.oneCell' = true) (hb : n * bytes ≤ 140737488355328) (hn : n ≤ 1000000000000) :
    ∃ v' w', (Builtin.append_ #[t, t] t #[.slice none 0 0, .slice A n c]).run Try.prog w = .ok v' w' ∧ w'.ownsRow w.heap.size e size v' n cs ∧ Below w.heap.size w w' ∧ (n = 0 → v' = .slice none 0 0) := by
  have hown : w.ownsRow w.heap.size e size (.slice none 0 0) 0 [] := ⟨by simp, .inl ⟨rfl, rfl⟩⟩
  have main : ∀ a, (∀ j u, cs[j]? = some u → w.cell? (Addr.add a j) = some u) → ∃ v' w', (Builtin.append_ #[t, t] t #[.slice none 0 0, .slice (some a) n c]).run Try.prog w = .ok v' w' ∧ w'.ownsRow w.heap.size e size v' n cs ∧ Below w.heap.size w w' ∧ (n = 0 → v' = .slice none 0 0) := fun a hc => by
    obtain ⟨v', w', hr, ho, hg, hnil, _⟩ := run_append_own_at (P := Try.prog) w w.heap.size t t e i z size bytes ht hi hz hsize hby hzs hsz (.slice none 0 0) 0 [] hown a n c cs hl hc h1 (by simp only [maxLen]; omega) (by rw [Nat.zero_add]; exact hb) (Nat.le_refl _)
    refine ⟨v', w', hr, by simpa using ho, ⟨hg.os, hg.tape, hg.output, hg.size, fun k hk => hg.block k hk (fun e => by simp [Value.ownBlock] at e)⟩, fun h0 => hnil.2 ⟨rfl, h0⟩⟩
  rcases A with _ | a
  · have h0 : n = 0 := by
      rcases Nat.eq_zero_or_pos n with h | h
      · exact h
      · obtain ⟨g, o, e, _⟩ := hA h; cases e
    subst h0
    have : cs = [] := List.eq_nil_of_length_eq_zero (by simpa using hl)
    subst this
    refine ⟨.slice none 0 0, w, ?_, hown, Below.refl _ _, fun _ => rfl⟩
    simp [Builtin.append_, run_underlying ht, sizeOf, typeInfo, hi, Builtin.lenOf, Builtin.firstCells]
  · refine main a (fun j u hj => ?_)
    have hjl := (List.getElem?_eq_some_iff.1 hj).1
    have h0 : 0 < n := by
      rcases Nat.eq_zero_or_pos n with h | h
      · rw [hl, h, Nat.zero_mul] at hjl; omega
      · exact h
    obtain ⟨g, o, e, hc⟩ := hA h0
    injection e with e
    subst e
    have e2 : (⟨g, o, none⟩ : Addr).add j = ⟨g, o + j, none⟩ := by unfold Addr.add; split <;> simp_all
    rw [e2]; exact hc j u hj
/-- What anew leaves. -/
def NewP (e size : Nat) (n : Nat) (cs : List Value) (w : World) (r : Ending) (w' : World) : Prop := ∃ A c, r = .returned (.slice A n c) ∧ w'.ownsRow w.heap.size e size (.slice A n c) n cs ∧ Below w.heap.size w w' ∧ (n = 0 → A = none ∧ c = 0)
theorem own_slice {w : World} {base e size n : Nat} {v : Value} {cs : List Value} (h : w.ownsRow base e size v n cs) : ∃ A c, v = .slice A n c := by
  obtain ⟨A, c, e, _⟩ := row_shapeN h
  exact ⟨A, c, e⟩
theorem anewB (A : Option Addr) (n c : Nat) (cs : List Value) (w : World) (hl : cs.length = n * 1) (hA : 0 < n → ∃ g o, A = some ⟨g, o, none⟩ ∧ CellsAt w g o cs) (h1 : ∀ u ∈ cs, u.oneCell' = true) (hn : n ≤ 1000000000000) :
    Calls Try.prog 44 #[.slice A n c] w (NewP 5 1 n cs w) := by
  obtain ⟨i0, hi, hz0, hz1, hz2⟩ := info_parts info5
  have HR := Lib.hid (run_anew 23 5 i0 _ 1 1 Try.underlying23 hi hz0 hz1 hz2 rfl (by omega) w A n c cs hl hA h1 (by omega) hn)
  clear hi hz0 hz1 hz2 hl hA h1
  obtain ⟨v', w', hrun, ho, hb, h0⟩ := HR.out
  obtain ⟨A', c', rfl⟩ := own_slice ho
  have HO := Lib.hid (show NewP _ _ _ _ _ (.returned (.slice A' n c')) w' from ⟨A', c', rfl, ho, hb, fun h => by have := h0 h; injection this with a b c; exact ⟨a, c⟩⟩)
  clear ho hb h0 HR
  go_enter Try.func44, Try.ntmps44
  go_wp2_with (at_builtin; refine Lib.wpList_append_run_sl _ rfl _ (.tmp 3) 23 rfl _ _ rfl rfl hrun ?_; clear hrun)
  go_ret
  exact HO.out
theorem anewO (A : Option Addr) (n c : Nat) (cs : List Value) (w : World) (hl : cs.length = n * 5) (hA : 0 < n → ∃ g o, A = some ⟨g, o, none⟩ ∧ CellsAt w g o cs) (h1 : ∀ u ∈ cs, u.oneCell' = true) (hn : n ≤ 1000000000000) :
    Calls Try.prog 45 #[.slice A n c] w (NewP 27 5 n cs w) := by
  obtain ⟨i0, hi, hz0, hz1, hz2⟩ := info_parts infoO
  have HR := Lib.hid (run_anew 24 27 i0 _ 5 88 Try.underlying24 hi hz0 hz1 hz2 rfl (by omega) w A n c cs hl hA h1 (by omega) hn)
  clear hi hz0 hz1 hz2 hl hA h1
  obtain ⟨v', w', hrun, ho, hb, h0⟩ := HR.out
  obtain ⟨A', c', rfl⟩ := own_slice ho
  have HO := Lib.hid (show NewP _ _ _ _ _ (.returned (.slice A' n c')) w' from ⟨A', c', rfl, ho, hb, fun h => by have := h0 h; injection this with a b c; exact ⟨a, c⟩⟩)
  clear ho hb h0 HR
  go_enter Try.func45, Try.ntmps45
  go_wp2_with (at_builtin; refine Lib.wpList_append_run_sl _ rfl _ (.tmp 3) 24 rfl _ _ rfl rfl hrun ?_; clear hrun)
  go_ret
  exact HO.out
theorem anewE (A : Option Addr) (n c : Nat) (cs : List Value) (w : World) (hl : cs.length = n * 6) (hA : 0 < n → ∃ g o, A = some ⟨g, o, none⟩ ∧ CellsAt w g o cs) (h1 : ∀ u ∈ cs, u.oneCell' = true) (hn : n ≤ 1000000000000) :
    Calls Try.prog 46 #[.slice A n c] w (NewP 32 6 n cs w) := by
  obtain ⟨i0, hi, hz0, hz1, hz2⟩ := info_parts infoE
  have HR := Lib.hid (run_anew 25 32 i0 _ 6 104 Try.underlying25 hi hz0 hz1 hz2 rfl (by omega) w A n c cs hl hA h1 (by omega) hn)
  clear hi hz0 hz1 hz2 hl hA h1
  obtain ⟨v', w', hrun, ho, hb, h0⟩ := HR.out
  obtain ⟨A', c', rfl⟩ := own_slice ho
  have HO := Lib.hid (show NewP _ _ _ _ _ (.returned (.slice A' n c')) w' from ⟨A', c', rfl, ho, hb, fun h => by have := h0 h; injection this with a b c; exact ⟨a, c⟩⟩)
  clear ho hb h0 HR
  go_enter Try.func46, Try.ntmps46
  go_wp2_with (at_builtin; refine Lib.wpList_append_run_sl _ rfl _ (.tmp 3) 25 rfl _ _ rfl rfl hrun ?_; clear hrun)
  go_ret
  exact HO.out
end

section
open Go.RowKit
set_option linter.unusedVariables false
set_option maxRecDepth 100000
/-- Five cells in new memory, and the object that is to stand there. -/
structure Sp where
  g : Nat
  o : Nat
  x : Ob
abbrev spPtr (p : Sp) : Value := .pointer (some ⟨p.g, p.o, none⟩)
def InSp (p : Sp) (k o : Nat) : Prop := k = p.g ∧ p.o ≤ o ∧ o < p.o + 5
def ApartSp (p q : Sp) : Prop := p.g ≠ q.g ∨ p.o + 5 ≤ q.o ∨ q.o + 5 ≤ p.o
mutual
/-- How deep an object is. -/
def htO : Ob → Nat
  | .mk _ _ _ l d => 1 + max (htL l) (htE d)
def htL : Obs → Nat
  | .nil => 0
  | .cons x xs => max (htO x) (htL xs)
def htE : Ens → Nat
  | .nil => 0
  | .cons _ x xs => max (htO x) (htE xs)
end
mutual
/-- No object has more than so many items and entries; no list is out of all measure. -/
def wdO (W : Nat) : Ob → Prop
  | .mk _ _ b l d => b.length ≤ 100000000 ∧ l.len + d.len ≤ W ∧ wdL W l ∧ wdE W d
def wdL (W : Nat) : Obs → Prop
  | .nil => True
  | .cons x xs => wdO W x ∧ wdL W xs
def wdE (W : Nat) : Ens → Prop
  | .nil => True
  | .cons _ x xs => wdO W x ∧ wdE W xs
end
def obsSp (g : Nat) : Nat → Obs → List Sp
  | _, .nil => []
  | o, .cons x xs => ⟨g, o, x⟩ :: obsSp g (o + 5) xs
def ensSp (g : Nat) : Nat → Ens → List Sp
  | _, .nil => []
  | o, .cons _ x xs => ⟨g, o + 1, x⟩ :: ensSp g (o + 6) xs
theorem obsSp_len (g : Nat) : ∀ (l : Obs) (o : Nat), (obsSp g o l).length = l.len
  | .nil, o => rfl
  | .cons x xs, o => by rw [obsSp, List.length_cons, obsSp_len g xs, Obs.len]
theorem ensSp_len (g : Nat) : ∀ (d : Ens) (o : Nat), (ensSp g o d).length = d.len
  | .nil, o => rfl
  | .cons s x xs, o => by rw [ensSp, List.length_cons, ensSp_len g xs, Ens.len]
theorem obsSp_get (g : Nat) : ∀ (l : Obs) (o i : Nat) (p : Sp), (obsSp g o l)[i]? = some p → p.g = g ∧ p.o = o + i * 5 ∧ l.get? i = some p.x
  | .nil, o, i, p, h => by simp [obsSp] at h
  | .cons x xs, o, 0, p, h => by simp [obsSp] at h; subst h; simp [Obs.get?]
  | .cons x xs, o, i + 1, p, h => by
    rw [obsSp, List.getElem?_cons_succ] at h
    obtain ⟨h1, h2, h3⟩ := obsSp_get g xs (o + 5) i p h
    exact ⟨h1, by rw [h2]; omega, by rw [Obs.get?]; exact h3⟩
theorem ensSp_get (g : Nat) : ∀ (d : Ens) (o i : Nat) (p : Sp), (ensSp g o d)[i]? = some p → p.g = g ∧ p.o = o + i * 6 + 1 ∧ ∃ s, d.get? i = some (s, p.x)
  | .nil, o, i, p, h => by simp [ensSp] at h
  | .cons s x xs, o, 0, p, h => by simp [ensSp] at h; subst h; simp [Ens.get?]
  | .cons s x xs, o, i + 1, p, h => by
    rw [ensSp, List.getElem?_cons_succ] at h
    obtain ⟨h1, h2, t, h3⟩ := ensSp_get g xs (o + 6) i p h
    exact ⟨h1, by rw [h2]; omega, t, by rw [Ens.get?]; exact h3⟩
theorem htL_get : ∀ (l : Obs) (i : Nat) (x : Ob), l.get? i = some x → htO x ≤ htL l
  | .nil, i, x, h => by simp [Obs.get?] at h
  | .cons y ys, 0, x, h => by simp [Obs.get?] at h; subst h; rw [htL]; omega
  | .cons y ys, i + 1, x, h => by have := htL_get ys i x (by simpa [Obs.get?] using h); rw [htL]; omega
theorem htE_get : ∀ (d : Ens) (i : Nat) (s : ByteArray) (x : Ob), d.get? i = some (s, x) → htO x ≤ htE d
  | .nil, i, s, x, h => by simp [Ens.get?] at h
  | .cons t y ys, 0, s, x, h => by simp [Ens.get?] at h; obtain ⟨rfl, rfl⟩ := h; rw [htE]; omega
  | .cons t y ys, i + 1, s, x, h => by have := htE_get ys i s x (by simpa [Ens.get?] using h); rw [htE]; omega
theorem wdL_get (W : Nat) : ∀ (l : Obs) (i : Nat) (x : Ob), wdL W l → l.get? i = some x → wdO W x
  | .nil, i, x, _, h => by simp [Obs.get?] at h
  | .cons y ys, 0, x, hw, h => by simp [Obs.get?] at h; subst h; unfold wdL at hw; exact hw.1
  | .cons y ys, i + 1, x, hw, h => by unfold wdL at hw; exact wdL_get W ys i x hw.2 (by simpa [Obs.get?] using h)
theorem wdE_get (W : Nat) : ∀ (d : Ens) (i : Nat) (s : ByteArray) (x : Ob), wdE W d → d.get? i = some (s, x) → wdO W x
  | .nil, i, s, x, _, h => by simp [Ens.get?] at h
  | .cons t y ys, 0, s, x, hw, h => by simp [Ens.get?] at h; obtain ⟨rfl, rfl⟩ := h; unfold wdE at hw; exact hw.1
  | .cons t y ys, i + 1, s, x, hw, h => by unfold wdE at hw; exact wdE_get W ys i s x hw.2 (by simpa [Ens.get?] using h)
/-- Out of a row of objects its cells. -/
theorem ObsR.cs {w : World} {S : Nat → Prop} : ∀ (l : Obs) (g o : Nat), ObsR w S l g o → ∃ cs, ObsC w S l cs ∧ CellsAt w g o cs ∧ cs.length = l.len * 5 ∧ ∀ u ∈ cs, u.oneCell' = true
  | .nil, g, o, h => ⟨[], rfl, fun j u hj => by simp at hj, rfl, fun u hu => by cases hu⟩
  | .cons x xs, g, o, h => by
    unfold ObsR at h
    obtain ⟨⟨c0, c1, c2, c3, c4, k0, k1, k2, k3, k4, hx⟩, hr⟩ := h
    obtain ⟨cs, h1, h2, h3, h4⟩ := ObsR.cs xs g (o + 5) hr
    obtain ⟨o0, o1, o2, o3, o4⟩ := ObR.one x hx
    refine ⟨c0 :: c1 :: c2 :: c3 :: c4 :: cs, ⟨c0, c1, c2, c3, c4, cs, rfl, hx, h1⟩, fun j u hj => ?_, by simp [h3, Obs.len, Nat.add_mul], fun u hu => ?_⟩
    · match j, hj with
      | 0, hj => simp at hj; subst hj; exact k0
      | 1, hj => simp at hj; subst hj; exact k1
      | 2, hj => simp at hj; subst hj; exact k2
      | 3, hj => simp at hj; subst hj; exact k3
      | 4, hj => simp at hj; subst hj; exact k4
      | j + 5, hj =>
        have := h2 j u (by simpa using hj)
        rw [show o + (j + 5) = o + 5 + j by omega]
        exact this
    · simp only [List.mem_cons] at hu
      rcases hu with rfl | rfl | rfl | rfl | rfl | hu
      · exact o0
      · exact o1
      · exact o2
      · exact o3
      · exact o4
      · exact h4 u hu
theorem EnsR.cs {w : World} {S : Nat → Prop} : ∀ (l : Ens) (g o : Nat), EnsR w S l g o → ∃ cs, EnsC w S l cs ∧ CellsAt w g o cs ∧ cs.length = l.len * 6 ∧ ∀ u ∈ cs, u.oneCell' = true
  | .nil, g, o, h => ⟨[], rfl, fun j u hj => by simp at hj, rfl, fun u hu => by cases hu⟩
  | .cons s x xs, g, o, h => by
    unfold EnsR at h
    obtain ⟨⟨c0, c1, c2, c3, c4, ks, k0, k1, k2, k3, k4, hx⟩, hr⟩ := h
    obtain ⟨cs, h1, h2, h3, h4⟩ := EnsR.cs xs g (o + 6) hr
    obtain ⟨o0, o1, o2, o3, o4⟩ := ObR.one x hx
    refine ⟨.string s :: c0 :: c1 :: c2 :: c3 :: c4 :: cs, ⟨c0, c1, c2, c3, c4, cs, rfl, hx, h1⟩, fun j u hj => ?_, by simp [h3, Ens.len, Nat.add_mul], fun u hu => ?_⟩
    · match j, hj with
      | 0, hj => simp at hj; subst hj; exact ks
      | 1, hj => simp at hj; subst hj; exact k0
      | 2, hj => simp at hj; subst hj; exact k1
      | 3, hj => simp at hj; subst hj; exact k2
      | 4, hj => simp at hj; subst hj; exact k3
      | 5, hj => simp at hj; subst hj; exact k4
      | j + 6, hj =>
        have := h2 j u (by simpa using hj)
        rw [show o + (j + 6) = o + 6 + j by omega]
        exact this
    · simp only [List.mem_cons] at hu
      rcases hu with rfl | rfl | rfl | rfl | rfl | rfl | hu
      · rfl
      · exact o0
      · exact o1
      · exact o2
      · exact o3
      · exact o4
      · exact h4 u hu
/-- The five cells of a spot. -/
def Five (w : World) (p : Sp) (c0 c1 c2 c3 c4 : Value) : Prop := w.cell? ⟨p.g, p.o, none⟩ = some c0 ∧ w.cell? ⟨p.g, p.o + 1, none⟩ = some c1 ∧ w.cell? ⟨p.g, p.o + 2, none⟩ = some c2 ∧ w.cell? ⟨p.g, p.o + 3, none⟩ = some c3 ∧ w.cell? ⟨p.g, p.o + 4, none⟩ = some c4
abbrev newT (w w' : World) (g0 : Nat) : Nat → Prop := fun b => w.heap.size ≤ b ∧ b < w'.heap.size ∧ b ≠ w.heap.size + 1 ∧ (∀ o, w'.frozen? ⟨b, o, none⟩ = false) ∧ g0 < b
theorem frozen_blk {w w' : World} {b o : Nat} (h : w'.heap[b]? = w.heap[b]?) : w'.frozen? ⟨b, o, none⟩ = w.frozen? ⟨b, o, none⟩ := by simp [World.frozen?, h]
theorem frozen_row {w : World} {b o : Nat} {cur : Array Value} {T : TypeId} (h : w.heap[b]? = some (.cells cur T (0, 0))) : w.frozen? ⟨b, o, none⟩ = false := by simp [World.frozen?, h]
def entO : Ob → Ens
  | .mk _ _ _ _ d => d
def bytO : Ob → List Int
  | .mk _ _ b _ _ => b
theorem EnsR.keepB {w w' : World} {S S' : Nat → Prop} (hb : ∀ b, S b → w'.heap[b]? = w.heap[b]?) (hS : ∀ b, S b → S' b) {g : Nat} (hg : w'.heap[g]? = w.heap[g]?) : ∀ (l : Ens) (o : Nat), EnsR w S l g o → EnsR w' S' l g o
  | .nil, o, _ => by unfold EnsR; trivial
  | .cons s x xs, o, h => by
    unfold EnsR at h ⊢
    obtain ⟨⟨c0, c1, c2, c3, c4, ks, k0, k1, k2, k3, k4, hx⟩, hr⟩ := h
    have e := fun j => World.cell?_of_block (a := ⟨g, j, none⟩) hg
    exact ⟨⟨c0, c1, c2, c3, c4, (e _).trans ks, (e _).trans k0, (e _).trans k1, (e _).trans k2, (e _).trans k3, (e _).trans k4, ObR.keep hb hS x hx⟩, EnsR.keepB hb hS hg xs (o + 6) hr⟩
/-- A row of entries with all that stands behind its length; what hangs on it lies in later blocks. -/
def CapD (S : Nat → Prop) (w' : World) (u v : Value) (x : Ob) : Prop := v = .slice none 0 0 ∨ ∃ g cur n c, v = .slice (some ⟨g, 0, none⟩) n c ∧ S g ∧ w'.heap[g]? = some (.cells cur 32 (0, 0)) ∧ n ≤ c ∧ c ≤ maxLen ∧ cur.size = c * 6 ∧ EnsR w' (fun b => S b ∧ g < b) (entO x) g 0 ∧ ∃ A m e, u = .slice A m e ∧ BytS w' (fun b => S b ∧ b ≠ g) A m e (bytO x)
theorem CapD.keep {S S' : Nat → Prop} {w w' : World} {u v : Value} {x : Ob} (h : CapD S w u v x) (hb : ∀ g, S g → w'.heap[g]? = w.heap[g]?) (hS : ∀ g, S g → S' g) : CapD S' w' u v x := by
  rcases h with h | ⟨g, cur, n, c, e, hg, hh, h1, h2, h3, h4, A, m, c', e5, h5⟩
  · exact .inl h
  · exact .inr ⟨g, cur, n, c, e, hS g hg, (hb g hg).trans hh, h1, h2, h3, EnsR.keepB (fun b hb' => hb b hb'.1) (fun b hb' => ⟨hS b hb'.1, hb'.2⟩) (hb g hg) _ 0 h4, A, m, c', e5, h5.keep (fun b hb' => hb b hb'.1) (fun b hb' => ⟨hS b hb'.1, hb'.2⟩)⟩
def DoneSp (w w' : World) (p : Sp) : Prop := ∃ c0 c1 c2 c3 c4, Five w' p c0 c1 c2 c3 c4 ∧ ObR w' (newT w w' p.g) p.x c0 c1 c2 c3 c4 ∧ CapD (newT w w' p.g) w' c2 c4 p.x
def PendSp (S : Nat → Prop) (wr : World) (p : Sp) : Prop := ∃ c0 c1 c2 c3 c4, Five wr p c0 c1 c2 c3 c4 ∧ ObR wr S p.x c0 c1 c2 c3 c4
theorem Five.keep {w w' : World} {p : Sp} {c0 c1 c2 c3 c4 : Value} (h : Five w p c0 c1 c2 c3 c4) (hk : ∀ o, p.o ≤ o → o < p.o + 5 → w'.cell? ⟨p.g, o, none⟩ = w.cell? ⟨p.g, o, none⟩) : Five w' p c0 c1 c2 c3 c4 := by
  obtain ⟨h0, h1, h2, h3, h4⟩ := h
  exact ⟨(hk _ (by omega) (by omega)).trans h0, (hk _ (by omega) (by omega)).trans h1, (hk _ (by omega) (by omega)).trans h2, (hk _ (by omega) (by omega)).trans h3, (hk _ (by omega) (by omega)).trans h4⟩
theorem obs_pend {w : World} {S : Nat → Prop} (g : Nat) : ∀ (l : Obs) (cs : List Value) (o : Nat), ObsC w S l cs → CellsAt w g o cs → ∀ p ∈ obsSp g o l, PendSp S w p
  | .nil, cs, o, _, _, p, hp => by simp [obsSp] at hp
  | .cons x xs, cs, o, h, hc, p, hp => by
    obtain ⟨c0, c1, c2, c3, c4, rest, rfl, hx, hr⟩ := h
    rw [obsSp] at hp
    rcases List.mem_cons.1 hp with rfl | hp
    · exact ⟨c0, c1, c2, c3, c4, ⟨hc 0 c0 rfl, hc 1 c1 rfl, hc 2 c2 rfl, hc 3 c3 rfl, hc 4 c4 rfl⟩, hx⟩
    · refine obs_pend g xs rest (o + 5) hr (fun j u hj => ?_) p hp
      have := hc (j + 5) u (by simpa using hj)
      rw [show o + (j + 5) = o + 5 + j by omega] at this
      exact this
theorem ens_pend {w : World} {S : Nat → Prop} (g : Nat) : ∀ (l : Ens) (cs : List Value) (o : Nat), EnsC w S l cs → CellsAt w g o cs → ∀ p ∈ ensSp g o l, PendSp S w p
  | .nil, cs, o, _, _, p, hp => by simp [ensSp] at hp
  | .cons s x xs, cs, o, h, hc, p, hp => by
    obtain ⟨c0, c1, c2, c3, c4, rest, rfl, hx, hr⟩ := h
    rw [ensSp] at hp
    rcases List.mem_cons.1 hp with rfl | hp
    · exact ⟨c0, c1, c2, c3, c4, ⟨hc 1 c0 rfl, hc 2 c1 rfl, hc 3 c2 rfl, hc 4 c3 rfl, hc 5 c4 rfl⟩, hx⟩
    · refine ens_pend g xs rest (o + 6) hr (fun j u hj => ?_) p hp
      have := hc (j + 6) u (by simpa using hj)
      rw [show o + (j + 6) = o + 6 + j by omega] at this
      exact this
theorem obs_done {w w' : World} (g : Nat) {S' : Nat → Prop} (hS : ∀ b, newT w w' g b → S' b) : ∀ (l : Obs) (o : Nat), (∀ p ∈ obsSp g o l, DoneSp w w' p) → ObsR w' S' l g o
  | .nil, o, _ => by unfold ObsR; trivial
  | .cons x xs, o, h => by
    unfold ObsR
    obtain ⟨c0, c1, c2, c3, c4, ⟨h0, h1, h2, h3, h4⟩, hx, -⟩ := h ⟨g, o, x⟩ (by simp [obsSp])
    exact ⟨⟨c0, c1, c2, c3, c4, h0, h1, h2, h3, h4, ObR.keep (fun _ _ => rfl) hS _ hx⟩, obs_done g hS xs (o + 5) (fun p hp => h p (by rw [obsSp]; exact List.mem_cons_of_mem _ hp))⟩
theorem ens_done {w w' : World} (g : Nat) {S' : Nat → Prop} (hS : ∀ b, newT w w' g b → S' b) : ∀ (l : Ens) (o : Nat), (∀ i s x, l.get? i = some (s, x) → w'.cell? ⟨g, o + i * 6, none⟩ = some (.string s)) → (∀ p ∈ ensSp g o l, DoneSp w w' p) → EnsR w' S' l g o
  | .nil, o, _, _ => by unfold EnsR; trivial
  | .cons s x xs, o, hk, h => by
    unfold EnsR
    obtain ⟨c0, c1, c2, c3, c4, ⟨h0, h1, h2, h3, h4⟩, hx, -⟩ := h ⟨g, o + 1, x⟩ (by simp [ensSp])
    refine ⟨⟨c0, c1, c2, c3, c4, by simpa using hk 0 s x rfl, h0, h1, h2, h3, h4, ObR.keep (fun _ _ => rfl) hS _ hx⟩, ens_done g hS xs (o + 6) (fun i t y hy => ?_) (fun p hp => h p (by rw [ensSp]; exact List.mem_cons_of_mem _ hp))⟩
    have := hk (i + 1) t y (by rw [Ens.get?]; exact hy)
    rw [show o + (i + 1) * 6 = o + 6 + i * 6 by omega] at this
    exact this
theorem ens_keys {w : World} {S : Nat → Prop} (g : Nat) : ∀ (l : Ens) (cs : List Value) (o : Nat), EnsC w S l cs → CellsAt w g o cs → ∀ i s x, l.get? i = some (s, x) → w.cell? ⟨g, o + i * 6, none⟩ = some (.string s)
  | .nil, cs, o, _, _, i, s, x, h => by simp [Ens.get?] at h
  | .cons t y ys, cs, o, h, hc, i, s, x, hi => by
    obtain ⟨c0, c1, c2, c3, c4, rest, rfl, hx, hr⟩ := h
    match i, hi with
    | 0, hi => simp [Ens.get?] at hi; obtain ⟨rfl, rfl⟩ := hi; simpa using hc 0 _ rfl
    | i + 1, hi =>
      have := ens_keys g ys rest (o + 6) hr (fun j u hj => by
        have := hc (j + 6) u (by simpa using hj)
        rw [show o + (j + 6) = o + 6 + j by omega] at this
        exact this) i s x (by simpa [Ens.get?] using hi)
      rw [show o + (i + 1) * 6 = o + 6 + i * 6 by omega]
      exact this
theorem obsSp_apart (g : Nat) : ∀ (l : Obs) (o : Nat), (obsSp g o l).Pairwise ApartSp
  | .nil, o => List.Pairwise.nil
  | .cons x xs, o => by
    rw [obsSp]
    refine List.Pairwise.cons (fun q hq => ?_) (obsSp_apart g xs (o + 5))
    obtain ⟨i, hi⟩ := List.getElem?_of_mem hq
    obtain ⟨h1, h2, _⟩ := obsSp_get g xs (o + 5) i q hi
    exact .inr (.inl (by rw [h2]; dsimp only; omega))
theorem ensSp_apart (g : Nat) : ∀ (l : Ens) (o : Nat), (ensSp g o l).Pairwise ApartSp
  | .nil, o => List.Pairwise.nil
  | .cons s x xs, o => by
    rw [ensSp]
    refine List.Pairwise.cons (fun q hq => ?_) (ensSp_apart g xs (o + 6))
    obtain ⟨i, hi⟩ := List.getElem?_of_mem hq
    obtain ⟨h1, h2, _⟩ := ensSp_get g xs (o + 6) i q hi
    exact .inr (.inl (by rw [h2]; dsimp only; omega))
theorem obsSp_g (g : Nat) (l : Obs) (o : Nat) (p : Sp) (h : p ∈ obsSp g o l) : p.g = g := by
  obtain ⟨i, hi⟩ := List.getElem?_of_mem h
  exact (obsSp_get g l o i p hi).1
theorem ensSp_g (g : Nat) (l : Ens) (o : Nat) (p : Sp) (h : p ∈ ensSp g o l) : p.g = g := by
  obtain ⟨i, hi⟩ := List.getElem?_of_mem h
  exact (ensSp_get g l o i p hi).1
/-- Between two rounds: v holds the spots P that are still to be filled. -/
structure CyS (w wr : World) (S : Nat → Prop) (v : Value) (P : List Sp) (root : Ob) (K W : Nat) : Prop where
  low : Below w.heap.size w wr
  res : wr.heap[w.heap.size + 1]? = some (.cells #[.int .i64 0, .int .i64 0, .slice none 0 0, .slice none 0 0, .slice none 0 0] 27 (0, 0))
  own : OwnV wr (w.heap.size + 2) 61 v (P.map spPtr)
  pend : ∀ p ∈ P, PendSp S wr p ∧ w.heap.size ≤ p.g ∧ p.g ≠ w.heap.size + 1 ∧ v.ownBlock ≠ some p.g ∧ ∃ cur T, wr.heap[p.g]? = some (.cells cur T (0, 0))
  apart : P.Pairwise ApartSp
  bound : ∀ i p, P[i]? = some p → i + W * htO p.x ≤ K ∧ wdO W p.x
  wand : ∀ w', wr.heap.size ≤ w'.heap.size → (∀ k o, w.heap.size ≤ k → k < wr.heap.size → v.ownBlock ≠ some k → (∀ p ∈ P, ¬ InSp p k o) → w'.cell? ⟨k, o, none⟩ = wr.cell? ⟨k, o, none⟩) → (∀ k, w.heap.size ≤ k → k < wr.heap.size → v.ownBlock ≠ some k → ∀ cur T, wr.heap[k]? = some (.cells cur T (0, 0)) → ∃ cur', w'.heap[k]? = some (.cells cur' T (0, 0)) ∧ cur'.size = cur.size) → (∀ p ∈ P, DoneSp w w' p) → DoneSp w w' ⟨w.heap.size, 0, root⟩
/-- Behind the three stores: W4 is what stood ahead of them. -/
structure St3 (W4 W5 : World) (p : Sp) (c0 c1 vb vl vd : Value) : Prop where
  size : W5.heap.size = W4.heap.size
  five : Five W5 p c0 c1 vb vl vd
  cell : ∀ g o, (g ≠ p.g ∨ o < p.o ∨ p.o + 5 ≤ o) → W5.cell? ⟨g, o, none⟩ = W4.cell? ⟨g, o, none⟩
  block : ∀ g, g ≠ p.g → W5.heap[g]? = W4.heap[g]?
  shape : ∀ cur T, W4.heap[p.g]? = some (.cells cur T (0, 0)) → ∃ cur', W5.heap[p.g]? = some (.cells cur' T (0, 0)) ∧ cur'.size = cur.size
/-- The lists that anew has made. -/
structure New3 (w wr W4 : World) (S : Nat → Prop) (b : List Int) (l : Obs) (d : Ens) (gl gd : Nat) (Ab Al Ad : Option Addr) (cb cl cd : Nat) : Prop where
  low : Below wr.heap.size wr W4
  byt : BytS W4 (fun g => wr.heap.size ≤ g ∧ g < W4.heap.size ∧ g ≠ gl ∧ g ≠ gd ∧ ∃ cur T, W4.heap[g]? = some (.cells cur T (0, 0))) Ab b.length cb b
  gl0 : wr.heap.size ≤ gl
  gd0 : wr.heap.size ≤ gd
  ne : gl ≠ gd
  lcap : l.len ≤ cl ∧ cl ≤ 9223372036854775807
  dcap : d.len ≤ cd ∧ cd ≤ 9223372036854775807
  items : 0 < l.len → Al = some ⟨gl, 0, none⟩ ∧ gl < W4.heap.size ∧ (∃ cur T, W4.heap[gl]? = some (.cells cur T (0, 0))) ∧ ∃ cs, ObsC wr S l cs ∧ CellsAt W4 gl 0 cs
  dnil : d.len = 0 → Ad = none ∧ cd = 0
  entries : 0 < d.len → Ad = some ⟨gd, 0, none⟩ ∧ gd < W4.heap.size ∧ (∃ cur, W4.heap[gd]? = some (.cells cur 32 (0, 0)) ∧ cur.size = cd * 6) ∧ ∃ cs, EnsC wr S d cs ∧ CellsAt W4 gd 0 cs
theorem obsSp_pos (g o : Nat) (l : Obs) (p : Sp) (h : p ∈ obsSp g o l) : 0 < l.len := by
  cases l with
  | nil => simp [obsSp] at h
  | cons x xs => rw [Obs.len]; omega
theorem ensSp_pos (g o : Nat) (l : Ens) (p : Sp) (h : p ∈ ensSp g o l) : 0 < l.len := by
  cases l with
  | nil => simp [ensSp] at h
  | cons s x xs => rw [Ens.len]; omega
set_option maxHeartbeats 2000000 in
theorem CyS.step {w wr W4 W5 wf : World} {S : Nat → Prop} {v vp vf : Value} {P0 : List Sp} {p : Sp} {root : Ob} {K Wd : Nat} (h : CyS w wr S v (P0 ++ [p]) root K Wd) (hS : ∀ g, S g → g < w.heap.size)
    {k n : Int} {b : List Int} {l : Obs} {d : Ens} {gl gd cb cl cd : Nat} {Ab Al Ad : Option Addr} (hx : p.x = .mk k n b l d) (hk : -9223372036854775808 ≤ k ∧ k ≤ 9223372036854775807) (hn : -9223372036854775808 ≤ n ∧ n ≤ 9223372036854775807)
    (h4 : New3 w wr W4 S b l d gl gd Ab Al Ad cb cl cd) (h5 : St3 W4 W5 p (.int .i64 k) (.int .i64 n) (.slice Ab b.length cb) (.slice Al l.len cl) (.slice Ad d.len cd)) (h5l : Below w.heap.size w W5)
    (hpo : vp.ownBlock = v.ownBlock) (hKX : KeepX vp W5 vf wf) (hOV : OwnV wf (w.heap.size + 2) 61 vf ((P0 ++ (obsSp gl 0 l ++ ensSp gd 0 d)).map spPtr)) :
    CyS w wf S vf (P0 ++ (obsSp gl 0 l ++ ensSp gd 0 d)) root K Wd := by
  obtain ⟨hpp, hpg, hpg1, hpo1, hpsh⟩ := h.pend p (by simp)
  have hglt : p.g < wr.heap.size := by obtain ⟨cur, T, e⟩ := hpsh; exact row_lt _ _ _ e
  have hsz4 := h4.low.size
  have hsz5 : wr.heap.size ≤ W5.heap.size := by rw [h5.size]; exact hsz4
  have hszf := hKX.size
  have hwlt : w.heap.size ≤ wr.heap.size := h.low.size
  have hres : w.heap.size + 1 < wr.heap.size := row_lt _ _ _ h.res
  have hown : ∀ g, v.ownBlock = some g → g < wr.heap.size ∧ w.heap.size + 2 ≤ g := fun g hg => h.own.lt g hg
  -- what is kept from the round's head to its end
  have kf : ∀ g, g < W5.heap.size → v.ownBlock ≠ some g → wf.heap[g]? = W5.heap[g]? := fun g hg hne => hKX.block g hg (by rw [hpo]; exact hne)
  have kb : ∀ g, g < wr.heap.size → v.ownBlock ≠ some g → g ≠ p.g → wf.heap[g]? = wr.heap[g]? := fun g hg hne hp => (kf g (by omega) hne).trans ((h5.block g hp).trans (h4.low.block g hg))
  have kc : ∀ g o, g < wr.heap.size → v.ownBlock ≠ some g → ¬ InSp p g o → wf.cell? ⟨g, o, none⟩ = wr.cell? ⟨g, o, none⟩ := fun g o hg hne hin => by
    rw [World.cell?_of_block (a := ⟨g, o, none⟩) (kf g (by omega) hne), h5.cell g o (by
      by_cases hgp : g = p.g
      · rcases Nat.lt_or_ge o p.o with ho | ho
        · exact .inr (.inl ho)
        · rcases Nat.lt_or_ge o (p.o + 5) with ho2 | ho2
          · exact absurd ⟨hgp, ho, ho2⟩ hin
          · exact .inr (.inr ho2)
      · exact .inl hgp)]
    exact World.cell?_of_block (a := ⟨g, o, none⟩) (h4.low.block g hg)
  have kS : ∀ g, S g → wf.heap[g]? = wr.heap[g]? := fun g hg => by
    have hlt := hS g hg
    have e1 := ((h5l.trans (hKX.below (base := w.heap.size) h5l.size (fun b hb => by rw [hpo] at hb; have := hown b hb; omega))).block g hlt)
    rw [e1, h.low.block g hlt]
  have klow : Below w.heap.size w wf := h5l.trans (hKX.below h5l.size (fun b hb => by rw [hpo] at hb; have := hown b hb; omega))
  -- new blocks
  have hLn : 0 < l.len → gl < W5.heap.size ∧ wf.heap[gl]? = W4.heap[gl]? := fun h0 => by
    obtain ⟨_, hl, _⟩ := h4.items h0
    have hlt : gl < W5.heap.size := by rw [h5.size]; exact hl
    refine ⟨hlt, (kf gl hlt (fun e => ?_)).trans (h5.block gl ?_)⟩
    · have := (hown gl e).1; have := h4.gl0; omega
    · have := h4.gl0; omega
  have hDn : 0 < d.len → gd < W5.heap.size ∧ wf.heap[gd]? = W4.heap[gd]? := fun h0 => by
    obtain ⟨_, hl, _⟩ := h4.entries h0
    have hlt : gd < W5.heap.size := by rw [h5.size]; exact hl
    refine ⟨hlt, (kf gd hlt (fun e => ?_)).trans (h5.block gd ?_)⟩
    · have := (hown gd e).1; have := h4.gd0; omega
    · have := h4.gd0; omega
  have hof : ∀ g, g < W5.heap.size → v.ownBlock ≠ some g → vf.ownBlock ≠ some g := fun g hg hne e => by
    rcases hKX.own g e with h1 | h1
    · exact hne (by rw [← hpo]; exact h1)
    · omega
  have hap := List.pairwise_append.1 h.apart
  refine ⟨klow, ?_, hOV, ?_, ?_, ?_, ?_⟩
  · rw [kb (w.heap.size + 1) (by have := row_lt _ _ _ h.res; exact this) (fun e => by have := (hown _ e).2; omega) (fun e => hpg1 e.symm)]
    exact h.res
  · intro q hq
    rcases List.mem_append.1 hq with hq | hq
    · obtain ⟨⟨c0, c1, c2, c3, c4, hf, hr⟩, q1, q2, q3, cur, T, hsh⟩ := h.pend q (by simp [hq])
      have hqlt : q.g < wr.heap.size := row_lt _ _ _ hsh
      have hqp : ApartSp q p := hap.2.2 q hq p (by simp)
      refine ⟨⟨c0, c1, c2, c3, c4, hf.keep (fun o h1 h2 => kc q.g o hqlt q3 (fun hin => ?_)), ObR.keep kS (fun _ h => h) _ hr⟩, q1, q2, hof q.g (by omega) q3, ?_⟩
      · obtain ⟨e, e1, e2⟩ := hin
        rcases hqp with h3 | h3 | h3
        · exact h3 e
        · omega
        · omega
      · by_cases hqg : q.g = p.g
        · obtain ⟨cur1, T2, e1⟩ := hpsh
          obtain ⟨cur2, e2, -⟩ := h5.shape cur1 T2 ((h4.low.block p.g hglt).trans e1)
          exact ⟨cur2, T2, by rw [hqg, kf p.g (by omega) hpo1]; exact e2⟩
        · exact ⟨cur, T, by rw [kb q.g hqlt q3 hqg]; exact hsh⟩
    · rcases List.mem_append.1 hq with hq | hq
      · have h0 := obsSp_pos gl 0 l q hq
        have hg := obsSp_g gl l 0 q hq
        obtain ⟨_, hl, ⟨cur, T, hsh⟩, cs, hC, hcs⟩ := h4.items h0
        have hgl0 := h4.gl0
        refine ⟨obs_pend gl l cs 0 (ObsC.keep kS (fun _ h => h) l cs hC) (fun j u hj => (World.cell?_of_block (a := ⟨gl, 0 + j, none⟩) (hLn h0).2).trans (hcs j u hj)) q hq, by rw [hg]; omega, by rw [hg]; have := row_lt _ _ _ h.res; omega, by rw [hg]; exact hof gl (hLn h0).1 (fun e => by have := (hown gl e).1; omega), cur, T, by rw [hg, (hLn h0).2]; exact hsh⟩
      · have h0 := ensSp_pos gd 0 d q hq
        have hg := ensSp_g gd d 0 q hq
        obtain ⟨_, hl, ⟨cur, hsh, -⟩, cs, hC, hcs⟩ := h4.entries h0
        have hgd0 := h4.gd0
        refine ⟨ens_pend gd d cs 0 (EnsC.keep kS (fun _ h => h) d cs hC) (fun j u hj => (World.cell?_of_block (a := ⟨gd, 0 + j, none⟩) (hDn h0).2).trans (hcs j u hj)) q hq, by rw [hg]; omega, by rw [hg]; have := row_lt _ _ _ h.res; omega, by rw [hg]; exact hof gd (hDn h0).1 (fun e => by have := (hown gd e).1; omega), cur, _, by rw [hg, (hDn h0).2]; exact hsh⟩
  · rw [List.pairwise_append]
    refine ⟨hap.1, ?_, fun q hq r hr => ?_⟩
    · rw [List.pairwise_append]
      refine ⟨obsSp_apart gl l 0, ensSp_apart gd d 0, fun q hq r hr => .inl ?_⟩
      rw [obsSp_g gl l 0 q hq, ensSp_g gd d 0 r hr]; exact h4.ne
    · obtain ⟨_, q1, q2, q3, cur, T, hsh⟩ := h.pend q (by simp [hq])
      have hqlt : q.g < wr.heap.size := row_lt _ _ _ hsh
      rcases List.mem_append.1 hr with hr | hr
      · exact .inl (by rw [obsSp_g gl l 0 r hr]; have := h4.gl0; omega)
      · exact .inl (by rw [ensSp_g gd d 0 r hr]; have := h4.gd0; omega)
  · intro i q hq
    rw [List.getElem?_append] at hq
    split at hq
    · rename_i hi
      exact h.bound i q (by rw [List.getElem?_append_left hi]; exact hq)
    · rename_i hi
      have hb := h.bound P0.length p (by simp)
      obtain ⟨hb1, hb2⟩ := hb
      rw [hx] at hb1 hb2
      rw [htO] at hb1
      unfold wdO at hb2
      obtain ⟨w1, w2, w3, w4⟩ := hb2
      have hm : ∀ t, t ≤ max (htL l) (htE d) → Wd * t + Wd ≤ Wd * (1 + max (htL l) (htE d)) := fun t ht => by
        have := Nat.mul_le_mul_left Wd (show t + 1 ≤ 1 + max (htL l) (htE d) by omega)
        rwa [Nat.mul_add, Nat.mul_one] at this
      rw [List.getElem?_append] at hq
      split at hq
      · rename_i hi2
        rw [obsSp_len] at hi2
        obtain ⟨_, _, h3⟩ := obsSp_get gl l 0 _ q hq
        have := hm (htO q.x) (by have := htL_get l _ _ h3; omega)
        exact ⟨by omega, wdL_get Wd l _ _ w3 h3⟩
      · rename_i hi2
        rw [obsSp_len] at hi2 hq
        obtain ⟨_, _, s, h3⟩ := ensSp_get gd d 0 _ q hq
        have := hm (htO q.x) (by have := htE_get d _ _ _ h3; omega)
        have hi3 := (List.getElem?_eq_some_iff.1 hq).1
        rw [ensSp_len] at hi3
        exact ⟨by omega, wdE_get Wd d _ _ _ w4 h3⟩
  · intro w' hs H2 HF H3
    refine h.wand w' (by omega) (fun g o h1 h2 h3 h6 => ?_) (fun g h1 h2 h3 cur T hcT => ?_) (fun q hq => ?_)
    · rw [H2 g o h1 (by omega) (hof g (by omega) h3) (fun q hq hin => ?_), kc g o h2 h3 (h6 p (by simp))]
      rcases List.mem_append.1 hq with hq | hq
      · exact h6 q (by simp [hq]) hin
      · rcases List.mem_append.1 hq with hq | hq
        · have := obsSp_g gl l 0 q hq; have := hin.1; have := h4.gl0; omega
        · have := ensSp_g gd d 0 q hq; have := hin.1; have := h4.gd0; omega
    · by_cases hgp : g = p.g
      · subst hgp
        obtain ⟨cur2, e2, z2⟩ := h5.shape cur T ((h4.low.block p.g h2).trans hcT)
        obtain ⟨cur3, e3, z3⟩ := HF p.g h1 (by omega) (hof p.g (by omega) h3) cur2 T ((kf p.g (by omega) h3).trans e2)
        exact ⟨cur3, e3, z3.trans z2⟩
      · exact HF g h1 (by omega) (hof g (by omega) h3) cur T (((kf g (by omega) h3).trans (h5.block g hgp)).trans ((h4.low.block g h2).trans hcT))
    · rcases List.mem_append.1 hq with hq | hq
      · exact H3 q (by simp [hq])
      · simp at hq; subst hq
        -- the spot itself
        have hnp : ∀ o, q.o ≤ o → o < q.o + 5 → ∀ r ∈ P0 ++ (obsSp gl 0 l ++ ensSp gd 0 d), ¬ InSp r q.g o := fun o ho1 ho2 r hr hin => by
          rcases List.mem_append.1 hr with hr | hr
          · rcases hap.2.2 r hr q (by simp) with e | e | e
            · exact e hin.1.symm
            · have := hin.2.2; omega
            · have := hin.2.1; omega
          · rcases List.mem_append.1 hr with hr | hr
            · have := obsSp_g gl l 0 r hr; have := hin.1; have := h4.gl0; omega
            · have := ensSp_g gd d 0 r hr; have := hin.1; have := h4.gd0; omega
        have hfw : Five w' q (.int .i64 k) (.int .i64 n) (.slice Ab b.length cb) (.slice Al l.len cl) (.slice Ad d.len cd) := by
          refine h5.five.keep (fun o ho1 ho2 => ?_)
          rw [H2 q.g o hpg (by omega) (hof q.g (by omega) hpo1) (hnp o ho1 ho2)]
          exact World.cell?_of_block (a := ⟨q.g, o, none⟩) (kf q.g (by omega) hpo1)
        have hnb : ∀ g, wr.heap.size ≤ g → g < W4.heap.size → v.ownBlock ≠ some g := fun g h1 h2 e => by have := (hown g e).1; omega
        have hglt' : q.g < wr.heap.size := hglt
        have hbyt : BytS w' (fun b' => newT w w' q.g b' ∧ b' ≠ gd) Ab b.length cb b := by
          obtain ⟨b1, b2, b3, b4⟩ := h4.byt
          refine ⟨b1, b2, b3, fun h0 => ?_⟩
          obtain ⟨g, o, e, ⟨e1, e2, e3, e4, e5⟩, hc⟩ := b4 h0
          have hg5 : g < W5.heap.size := by rw [h5.size]; exact e2
          refine ⟨g, o, e, ⟨⟨by omega, by omega, by omega, fun o => by (obtain ⟨cur, T, e5⟩ := e5); (obtain ⟨cur', e6, -⟩ := HF g (by omega) (by omega) (hof g hg5 (hnb g e1 e2)) cur T (((kf g hg5 (hnb g e1 e2)).trans (h5.block g (by omega))).trans e5)); exact frozen_row e6, by omega⟩, e4⟩, fun i hi => ?_⟩
          rw [H2 g (o + i) (by omega) (by omega) (hof g hg5 (hnb g e1 e2)) (fun r hr hin => ?_), World.cell?_of_block (a := ⟨g, o + i, none⟩) (kf g hg5 (hnb g e1 e2)), World.cell?_of_block (a := ⟨g, o + i, none⟩) (h5.block g (by omega))]
          · exact hc i hi
          · rcases List.mem_append.1 hr with hr | hr
            · obtain ⟨_, _, _, _, cur, T, hsh⟩ := h.pend r (by simp [hr])
              have := row_lt _ _ _ hsh; have := hin.1; omega
            · rcases List.mem_append.1 hr with hr | hr
              · exact e3 (hin.1.trans (obsSp_g gl l 0 r hr))
              · exact e4 (hin.1.trans (ensSp_g gd d 0 r hr))
        have hent : 0 < d.len → EnsR w' (newT w w' gd) d gd 0 := fun h0 => by
          obtain ⟨e, hl, hsh, cs, hC, hcs⟩ := h4.entries h0
          have hgd0 := h4.gd0
          refine ens_done gd (fun _ h => h) d 0 (fun i s y hy => ?_) (fun r hr => H3 r (by simp [hr]))
          have hkey := ens_keys gd d cs 0 (EnsC.keep (fun g hg => h4.low.block g (by have := hS g hg; omega)) (fun _ h => h) d cs hC) hcs i s y hy
          rw [H2 gd (0 + i * 6) (by omega) (by have := (hDn h0).1; omega) (hof gd (hDn h0).1 (hnb gd hgd0 hl)) (fun r hr hin => ?_), World.cell?_of_block (a := ⟨gd, 0 + i * 6, none⟩) (hDn h0).2]
          · exact hkey
          · rcases List.mem_append.1 hr with hr | hr
            · obtain ⟨_, _, _, _, cur, T, hsh⟩ := h.pend r (by simp [hr])
              have := row_lt _ _ _ hsh; have := hin.1; omega
            · rcases List.mem_append.1 hr with hr | hr
              · exact h4.ne ((obsSp_g gl l 0 r hr).symm.trans hin.1.symm)
              · obtain ⟨j, hj⟩ := List.getElem?_of_mem hr
                obtain ⟨_, ho, _⟩ := ensSp_get gd d 0 j r hj
                have h1 := hin.2.1
                have h2 := hin.2.2
                omega
        refine ⟨_, _, _, _, _, hfw, ?_, ?_⟩
        rotate_left
        · rcases Nat.eq_zero_or_pos d.len with h0 | h0
          · obtain ⟨e1, e2⟩ := h4.dnil h0
            exact .inl (by rw [h0, e1, e2])
          · obtain ⟨e, hl, ⟨curD, eD, zD⟩, -⟩ := h4.entries h0
            have hgd0 := h4.gd0
            obtain ⟨cur', e6, z6⟩ := HF gd (by omega) (by have := (hDn h0).1; omega) (hof gd (hDn h0).1 (hnb gd hgd0 hl)) curD _ ((hDn h0).2.trans eD)
            exact .inr ⟨gd, cur', d.len, cd, by rw [e], ⟨by omega, by have := (hDn h0).1; omega, by omega, fun o => frozen_row e6, by omega⟩, e6, h4.dcap.1, by simp only [maxLen]; exact h4.dcap.2, z6.trans zD, by rw [hx]; exact EnsR.keepB (fun _ _ => rfl) (fun b' hb' => ⟨⟨hb'.1, hb'.2.1, hb'.2.2.1, hb'.2.2.2.1, by have := hb'.2.2.2.2; omega⟩, hb'.2.2.2.2⟩) rfl d 0 (hent h0), Ab, b.length, cb, rfl, by rw [hx]; exact hbyt⟩
        rw [hx]
        unfold ObR
        refine ⟨rfl, rfl, hk, hn, ⟨Ab, b.length, cb, rfl, hbyt.keep (fun _ _ => rfl) (fun _ h => h.1)⟩, ⟨Al, cl, rfl, h4.lcap, fun h0 => ?_⟩, ⟨Ad, cd, rfl, h4.dcap, fun h0 => ?_⟩⟩
        · obtain ⟨e, hl, ⟨curL, TL, eL⟩, _⟩ := h4.items h0
          have := h4.gl0
          exact ⟨gl, 0, e, ⟨by omega, by have := (hLn h0).1; omega, by omega, fun o => by (obtain ⟨cur', e6, -⟩ := HF gl (by omega) (by have := (hLn h0).1; omega) (hof gl (hLn h0).1 (hnb gl this hl)) curL TL ((hLn h0).2.trans eL)); exact frozen_row e6, by omega⟩, obs_done gl (fun b' hb' => ⟨hb'.1, hb'.2.1, hb'.2.2.1, hb'.2.2.2.1, by have := hb'.2.2.2.2; omega⟩) l 0 (fun r hr => H3 r (by simp [hr]))⟩
        · obtain ⟨e, hl, hsh, -⟩ := h4.entries h0
          have hgd0 := h4.gd0
          exact ⟨gd, 0, e, ⟨by omega, by have := (hDn h0).1; omega, by omega, fun o => by (obtain ⟨curD, eD, -⟩ := hsh); (obtain ⟨cur', e6, -⟩ := HF gd (by omega) (by have := (hDn h0).1; omega) (hof gd (hDn h0).1 (hnb gd hgd0 hl)) curD _ ((hDn h0).2.trans eD)); exact frozen_row e6, by omega⟩, EnsR.keepB (fun _ _ => rfl) (fun b' hb' => ⟨hb'.1, hb'.2.1, hb'.2.2.1, hb'.2.2.2.1, by have := hb'.2.2.2.2; omega⟩) rfl d 0 (hent h0)⟩
theorem row_block {w : World} {base e s n : Nat} {A : Option Addr} {c : Nat} {cs : List Value} (h : w.ownsRow base e s (.slice A n c) n cs) (h0 : 0 < n) : ∃ g, A = some ⟨g, 0, none⟩ ∧ base ≤ g ∧ g < w.heap.size ∧ (∃ cur T, w.heap[g]? = some (.cells cur T (0, 0))) ∧ CellsAt w g 0 cs := by
  obtain ⟨A2, c2, e2, hc, hx⟩ := row_shapeN h
  injection e2 with e2 _ e3
  subst e2 e3
  obtain ⟨g, e3, hb, hl, hcell⟩ := hx h0
  refine ⟨g, e3, hb, hl, ?_, hcell⟩
  rcases h.2 with ⟨_, hn⟩ | ⟨g', cap, cur, ev, _, hh, _⟩
  · omega
  · injection ev with ev
    rw [e3] at ev
    injection ev with ev
    injection ev with ev
    subst ev
    exact ⟨cur, _, hh⟩
theorem row_cap {w : World} {base e s n : Nat} {A : Option Addr} {c : Nat} {cs : List Value} (h : w.ownsRow base e s (.slice A n c) n cs) : n ≤ c ∧ c ≤ 9223372036854775807 := by
  obtain ⟨A2, c2, e2, hc, hx⟩ := row_shapeN h
  injection e2 with e2 _ e3
  subst e2 e3
  exact hc
theorem row_full {w : World} {base e s n g : Nat} {A : Option Addr} {c : Nat} {cs : List Value} (h : w.ownsRow base e s (.slice A n c) n cs) (hA : A = some ⟨g, 0, none⟩) : ∃ cur, w.heap[g]? = some (.cells cur e (0, 0)) ∧ cur.size = c * s := by
  rcases h.2 with ⟨h0, _⟩ | ⟨g', cap, cur, ev, _, hh, _, _, hz, _⟩
  · rw [hA] at h0; cases h0
  · rw [hA] at ev
    injection ev with e1 e2 e3
    injection e1 with e1
    injection e1 with e1
    subst e1 e3
    exact ⟨cur, hh, hz⟩
/-- Out of the three calls of anew. -/
theorem new3_of {w wr W2 W3 W4 : World} {S : Nat → Prop} {b : List Int} {l : Obs} {d : Ens} {Ab Al Ad : Option Addr} {cb cl cd : Nat} {csl csd : List Value} (hbr : ∀ z ∈ b, 0 ≤ z ∧ z < 256)
    (o1 : W2.ownsRow wr.heap.size 5 1 (.slice Ab b.length cb) b.length (b.map (Value.int .u8))) (b1 : Below wr.heap.size wr W2) (o2 : W3.ownsRow W2.heap.size 27 5 (.slice Al l.len cl) l.len csl) (b2 : Below W2.heap.size W2 W3)
    (o3 : W4.ownsRow W3.heap.size 32 6 (.slice Ad d.len cd) d.len csd) (b3 : Below W3.heap.size W3 W4) (hdn : d.len = 0 → Ad = none ∧ cd = 0) (hL : ObsC wr S l csl) (hD : EnsC wr S d csd) : ∃ gl gd, New3 w wr W4 S b l d gl gd Ab Al Ad cb cl cd := by
  have s1 := b1.size
  have s2 := b2.size
  have s3 := b3.size
  obtain ⟨gl, hgl⟩ : ∃ gl, W2.heap.size ≤ gl ∧ (gl < W3.heap.size ∨ gl = W4.heap.size) ∧ (0 < l.len → Al = some ⟨gl, 0, none⟩ ∧ gl < W3.heap.size ∧ (∃ cur T, W3.heap[gl]? = some (.cells cur T (0, 0))) ∧ CellsAt W3 gl 0 csl) := by
    rcases Nat.eq_zero_or_pos l.len with h0 | h0
    · exact ⟨W4.heap.size, by omega, .inr rfl, fun h => by omega⟩
    · obtain ⟨g, e, h1, h2, h3, h4⟩ := row_block o2 h0
      exact ⟨g, h1, .inl h2, fun _ => ⟨e, h2, h3, h4⟩⟩
  obtain ⟨gd, hgd⟩ : ∃ gd, W3.heap.size ≤ gd ∧ (gd < W4.heap.size ∨ gd = W4.heap.size + 1) ∧ (0 < d.len → Ad = some ⟨gd, 0, none⟩ ∧ gd < W4.heap.size ∧ (∃ cur, W4.heap[gd]? = some (.cells cur 32 (0, 0)) ∧ cur.size = cd * 6) ∧ CellsAt W4 gd 0 csd) := by
    rcases Nat.eq_zero_or_pos d.len with h0 | h0
    · exact ⟨W4.heap.size + 1, by omega, .inr rfl, fun h => by omega⟩
    · obtain ⟨g, e, h1, h2, -, h4⟩ := row_block o3 h0
      exact ⟨g, h1, .inl h2, fun _ => ⟨e, h2, row_full o3 e, h4⟩⟩
  refine ⟨gl, gd, ⟨b1.trans ((b2.trans (b3.mono s2)).mono s1), ⟨rfl, ⟨(row_cap o1).1, Nat.le_trans (row_cap o1).1 (row_cap o1).2⟩, hbr, fun h0 => ?_⟩, by omega, by omega, by omega, row_cap o2, row_cap o3, fun h0 => ?_, hdn, fun h0 => ?_⟩⟩
  · obtain ⟨g, e, h1, h2, h3, h4⟩ := row_block o1 h0
    refine ⟨g, 0, e, ⟨h1, by omega, by omega, by omega, by (obtain ⟨cur, T, e3⟩ := h3); exact ⟨cur, T, ((b2.trans (b3.mono s2)).block g h2).trans e3⟩⟩, fun i hi => ?_⟩
    have hk := (b2.trans (b3.mono s2)).block g h2
    rw [World.cell?_of_block (a := ⟨g, 0 + i, none⟩) hk]
    refine h4 i _ ?_
    simp [List.getD, hi]
  · obtain ⟨e, h2, ⟨cur, T, h3⟩, h4⟩ := hgl.2.2 h0
    exact ⟨e, by omega, ⟨cur, T, (b3.block gl h2).trans h3⟩, csl, hL, fun j u hj => (World.cell?_of_block (a := ⟨gl, 0 + j, none⟩) (b3.block gl h2)).trans (h4 j u hj)⟩
  · obtain ⟨e, h2, h3, h4⟩ := hgd.2.2 h0
    exact ⟨e, h2, h3, csd, hD, h4⟩
theorem St3.of {W4 : World} {p : Sp} {c0 c1 c2 c3 c4 : Value} (hf : Five W4 p c0 c1 c2 c3 c4) (vb vl vd : Value) :
    St3 W4 (((W4.setCell ⟨p.g, p.o + 2, none⟩ vb).setCell ⟨p.g, p.o + 3, none⟩ vl).setCell ⟨p.g, p.o + 4, none⟩ vd) p c0 c1 vb vl vd := by
  obtain ⟨h0, h1, h2, h3, h4⟩ := hf
  have ne : ∀ (W : World) (g o o2 : Nat) (v : Value), (g ≠ p.g ∨ o ≠ o2) → (W.setCell ⟨p.g, o2, none⟩ v).cell? ⟨g, o, none⟩ = W.cell? ⟨g, o, none⟩ := fun W g o o2 v h => by
    refine World.cell?_setCell_other _ _ _ _ (fun e => ?_)
    injection e with e1 e2
    rcases h with h | h
    · exact h e1.symm
    · exact h e2.symm
  refine ⟨by simp [World.setCell], ⟨?_, ?_, ?_, ?_, ?_⟩, fun g o h => ?_, fun g h => ?_, fun cur T e => ?_⟩
  · rw [ne _ _ _ _ _ (.inr (by omega)), ne _ _ _ _ _ (.inr (by omega)), ne _ _ _ _ _ (.inr (by omega))]; exact h0
  · rw [ne _ _ _ _ _ (.inr (by omega)), ne _ _ _ _ _ (.inr (by omega)), ne _ _ _ _ _ (.inr (by omega))]; exact h1
  · rw [ne _ _ _ _ _ (.inr (by omega)), ne _ _ _ _ _ (.inr (by omega))]
    exact World.cell?_setCell_same _ _ _ h2
  · rw [ne _ _ _ _ _ (.inr (by omega))]
    refine World.cell?_setCell_same _ _ _ (u := c3) ?_
    rw [ne _ _ _ _ _ (.inr (by omega))]; exact h3
  · refine World.cell?_setCell_same _ _ _ (u := c4) ?_
    rw [ne _ _ _ _ _ (.inr (by omega)), ne _ _ _ _ _ (.inr (by omega))]; exact h4
  · rw [ne _ _ _ _ _ (by omega), ne _ _ _ _ _ (by omega), ne _ _ _ _ _ (by omega)]
  · exact (set_blk9 _ p.g _ g _ h).trans ((set_blk9 _ p.g _ g _ h).trans (set_blk9 _ p.g _ g _ h))
  · have hs : ∀ (W : World) (cur : Array Value) (i : Nat) (v : Value), W.heap[p.g]? = some (.cells cur T (0, 0)) → ∃ cur', (W.setCell ⟨p.g, i, none⟩ v).heap[p.g]? = some (.cells cur' T (0, 0)) ∧ cur'.size = cur.size := fun W cur i v e => ⟨cur.set! i v, by simp [World.setCell, Array.getElem?_modify, e], by simp⟩
    obtain ⟨_, e1, z1⟩ := hs _ _ (p.o + 2) vb e
    obtain ⟨_, e2, z2⟩ := hs _ _ (p.o + 3) vl e1
    obtain ⟨cur3, e3, z3⟩ := hs _ _ (p.o + 4) vd e2
    exact ⟨cur3, e3, z3.trans (z2.trans z1)⟩
theorem OwnV.pop {w : World} {base : Nat} {e : TypeId} {gS n c : Nat} {xs : List Value} {u : Value} (h : OwnV w base e (.slice (some ⟨gS, 0, none⟩) (n + 1) c) (xs ++ [u])) (hn : xs.length = n) : OwnV w base e (.slice (some ⟨gS, 0, none⟩) n c) xs := by
  subst hn
  refine ⟨by simp, ?_⟩
  rcases h.2 with ⟨h0, _⟩ | ⟨g, cap, cur, ev, hb, hh, hc, hm, hs, ht⟩
  · cases h0
  · injection ev with e1 e2 e3
    injection e1 with e1
    injection e1 with e1
    subst e1 e3
    refine .inr ⟨gS, c, cur, rfl, hb, hh, by rw [List.length_append] at hc; simp at hc; omega, hm, hs, ?_⟩
    have := congrArg (List.take xs.length) ht
    rw [List.take_take] at this
    simpa using this
/-- One more pointer, out of a literal. -/
theorem OwnV.lit1 {w : World} {base : Nat} {v : Value} {xs : List Value} (h : OwnV w base 61 v xs) (g o : Nat) (hl : xs.length ≤ 1000000000) (hbase : base ≤ w.heap.size) :
    ∃ A c w', (Builtin.append_ #[62, 62] 62 #[v, .slice (some ⟨w.heap.size, 0, none⟩) 1 1]).run Try.prog (w.alloc (.cells #[.pointer (some ⟨g, o, none⟩)] 61)) = .ok (.slice A (xs.length + 1) c) w' ∧ OwnV w' base 61 (.slice A (xs.length + 1) c) (xs ++ [.pointer (some ⟨g, o, none⟩)]) ∧ KeepX v w (.slice A (xs.length + 1) c) w' := by
  obtain ⟨i0, hi, hz0, hz1, hz2⟩ := info_parts (show (Try.prog.info? 61).map (fun i => (i.zero, i.size, i.bytes)) = some (some (.pointer none), 1, 8) by kernel_rfl)
  have hb1 : Below w.heap.size w (w.alloc (.cells #[.pointer (some ⟨g, o, none⟩)] 61)) := (Below.refl _ _).alloc (Nat.le_refl _) _
  obtain ⟨v', w', hr, ho, hk, A, c, rfl⟩ := (h.low hb1).append1 62 62 i0 _ 8 Try.underlying62 hi hz0 hz1 hz2 rfl (by omega) w.heap.size (.pointer (some ⟨g, o, none⟩)) (by rw [cell_of_row _ _ 0 _ _ (0, 0) (heap_alloc_new w _)]; rfl) rfl hl (Nat.le_trans hbase hb1.size)
  exact ⟨A, c, w', hr, ho, (KeepX.ofBelow hb1).trans hk⟩
def spSum : List Sp → Nat
  | [] => 0
  | p :: ps => p.x.sz + spSum ps
theorem spSum_app : ∀ (a b : List Sp), spSum (a ++ b) = spSum a + spSum b
  | [], b => by simp [spSum]
  | p :: ps, b => by rw [List.cons_append, spSum, spSum_app ps b, spSum]; omega
theorem spSum_obs (g : Nat) : ∀ (l : Obs) (o : Nat), spSum (obsSp g o l) = l.sz
  | .nil, o => rfl
  | .cons x xs, o => by rw [obsSp, spSum, spSum_obs g xs, Obs.sz]
theorem spSum_ens (g : Nat) : ∀ (l : Ens) (o : Nat), spSum (ensSp g o l) = l.sz
  | .nil, o => rfl
  | .cons s x xs, o => by rw [ensSp, spSum, spSum_ens g xs, Ens.sz]
theorem CyS.start {w : World} {S : Nat → Prop} {x : Ob} {c0 c1 c2 c3 c4 : Value} {K W : Nat} (hx : ObR w S x c0 c1 c2 c3 c4) (hS : ∀ g, S g → g < w.heap.size) (hW : wdO W x) (hK : W * htO x ≤ K) :
    CyS w (((w.alloc (.cells #[c0, c1, c2, c3, c4] 27)).alloc (.cells #[.int .i64 0, .int .i64 0, .slice none 0 0, .slice none 0 0, .slice none 0 0] 27)).alloc (.cells #[.pointer (some ⟨w.heap.size, 0, none⟩)] 61)) S (.slice (some ⟨w.heap.size + 1 + 1, 0, none⟩) 1 1) [⟨w.heap.size, 0, x⟩] x K W := by
  have a1 := (Below.refl w.heap.size w).alloc (Nat.le_refl _) (.cells #[c0, c1, c2, c3, c4] 27)
  have n1 := heap_alloc_new w (.cells #[c0, c1, c2, c3, c4] 27)
  have z1 : (w.alloc (.cells #[c0, c1, c2, c3, c4] 27)).heap.size = w.heap.size + 1 := by simp
  generalize w.alloc (.cells #[c0, c1, c2, c3, c4] 27) = W1 at *
  have a2 := (Below.refl W1.heap.size W1).alloc (Nat.le_refl _) (.cells #[.int .i64 0, .int .i64 0, .slice none 0 0, .slice none 0 0, .slice none 0 0] 27)
  have n2 := heap_alloc_new W1 (.cells #[.int .i64 0, .int .i64 0, .slice none 0 0, .slice none 0 0, .slice none 0 0] 27)
  have z2 : (W1.alloc (.cells #[.int .i64 0, .int .i64 0, .slice none 0 0, .slice none 0 0, .slice none 0 0] 27)).heap.size = w.heap.size + 1 + 1 := by simp; omega
  generalize W1.alloc (.cells #[.int .i64 0, .int .i64 0, .slice none 0 0, .slice none 0 0, .slice none 0 0] 27) = W2 at *
  have a3 := (Below.refl W2.heap.size W2).alloc (Nat.le_refl _) (.cells #[.pointer (some ⟨w.heap.size, 0, none⟩)] 61)
  have n3 := heap_alloc_new W2 (.cells #[.pointer (some ⟨w.heap.size, 0, none⟩)] 61)
  have z3 : (W2.alloc (.cells #[.pointer (some ⟨w.heap.size, 0, none⟩)] 61)).heap.size = w.heap.size + 3 := by simp; omega
  generalize W2.alloc (.cells #[.pointer (some ⟨w.heap.size, 0, none⟩)] 61) = W3 at *
  rw [z1] at n2
  rw [z2] at n3
  have e1 : W3.heap[w.heap.size]? = some (.cells #[c0, c1, c2, c3, c4] 27 (0, 0)) := (a3.block _ (by omega)).trans ((a2.block _ (by omega)).trans n1)
  have e2 := (a3.block (w.heap.size + 1) (by omega)).trans n2
  have lo : Below w.heap.size w W3 := a1.trans ((a2.mono (by omega)).trans (a3.mono (by omega)))
  refine ⟨lo, e2, ⟨rfl, .inr ⟨_, 1, _, rfl, by omega, n3, Nat.le_refl _, by decide, rfl, rfl⟩⟩, fun p hp => ?_, List.pairwise_singleton _ _, fun i p hp => ?_, fun w' hs h1 _ h2 => h2 _ (by simp)⟩
  · simp at hp; subst hp
    refine ⟨⟨c0, c1, c2, c3, c4, ⟨cell_of_row _ _ 0 _ _ (0, 0) e1, cell_of_row _ _ 1 _ _ (0, 0) e1, cell_of_row _ _ 2 _ _ (0, 0) e1, cell_of_row _ _ 3 _ _ (0, 0) e1, cell_of_row _ _ 4 _ _ (0, 0) e1⟩, ObR.keep (fun g hg => lo.block g (hS g hg)) (fun _ h => h) x hx⟩, Nat.le_refl _, by dsimp only; omega, fun e => by injection e with e; dsimp only at e; omega, _, _, e1⟩
  · match i, hp with
    | 0, hp => simp at hp; subst hp; exact ⟨by dsimp only; omega, hW⟩
    | i + 1, hp => simp at hp
end

section
open Go.RowKit
set_option linter.unusedVariables false
set_option maxRecDepth 100000
theorem ObR.form {w : World} {S : Nat → Prop} : ∀ {x : Ob} {c0 c1 c2 c3 c4 : Value}, ObR w S x c0 c1 c2 c3 c4 → ∃ k n A2 m2 d2 A3 m3 d3 A4 m4 d4, c0 = .int .i64 k ∧ c1 = .int .i64 n ∧ c2 = .slice A2 m2 d2 ∧ c3 = .slice A3 m3 d3 ∧ c4 = .slice A4 m4 d4
  | .mk k n b l d, c0, c1, c2, c3, c4, h => by
    unfold ObR at h
    obtain ⟨h0, h1, _, _, ⟨A, m, c, e2, _⟩, ⟨AL, cL, e3, _⟩, ⟨AD, cD, e4, _⟩⟩ := h
    exact ⟨k, n, A, m, c, AL, _, cL, AD, _, cD, h0, h1, e2, e3, e4⟩
theorem obs_new {w : World} {S : Nat → Prop} (l : Obs) {A : Option Addr} (h : 0 < l.len → ∃ g o, A = some ⟨g, o, none⟩ ∧ S g ∧ ObsR w S l g o) : ∃ cs, ObsC w S l cs ∧ cs.length = l.len * 5 ∧ (∀ u ∈ cs, u.oneCell' = true) ∧ (0 < l.len → ∃ g o, A = some ⟨g, o, none⟩ ∧ S g ∧ CellsAt w g o cs) := by
  rcases Nat.eq_zero_or_pos l.len with h0 | h0
  · cases l with
    | nil => exact ⟨[], rfl, rfl, (fun u hu => by cases hu), (fun h => by simp [Obs.len] at h)⟩
    | cons x xs => simp [Obs.len] at h0
  · obtain ⟨g, o, e, hg, hr⟩ := h h0
    obtain ⟨cs, h1, h2, h3, h4⟩ := ObsR.cs l g o hr
    exact ⟨cs, h1, h3, h4, fun _ => ⟨g, o, e, hg, h2⟩⟩
theorem ens_new {w : World} {S : Nat → Prop} (l : Ens) {A : Option Addr} (h : 0 < l.len → ∃ g o, A = some ⟨g, o, none⟩ ∧ S g ∧ EnsR w S l g o) : ∃ cs, EnsC w S l cs ∧ cs.length = l.len * 6 ∧ (∀ u ∈ cs, u.oneCell' = true) ∧ (0 < l.len → ∃ g o, A = some ⟨g, o, none⟩ ∧ S g ∧ CellsAt w g o cs) := by
  rcases Nat.eq_zero_or_pos l.len with h0 | h0
  · cases l with
    | nil => exact ⟨[], rfl, rfl, (fun u hu => by cases hu), (fun h => by simp [Ens.len] at h)⟩
    | cons s x xs => simp [Ens.len] at h0
  · obtain ⟨g, o, e, hg, hr⟩ := h h0
    obtain ⟨cs, h1, h2, h3, h4⟩ := EnsR.cs l g o hr
    exact ⟨cs, h1, h3, h4, fun _ => ⟨g, o, e, hg, h2⟩⟩
theorem cells_old {w W : World} {S : Nat → Prop} {n : Nat} {A : Option Addr} {cs : List Value} (hW : ∀ g, S g → W.heap[g]? = w.heap[g]?) (h : 0 < n → ∃ g o, A = some ⟨g, o, none⟩ ∧ S g ∧ CellsAt w g o cs) : 0 < n → ∃ g o, A = some ⟨g, o, none⟩ ∧ CellsAt W g o cs := fun h0 => by
  obtain ⟨g, o, e, hg, hc⟩ := h h0
  exact ⟨g, o, e, fun j u hj => (World.cell?_of_block (a := ⟨g, o + j, none⟩) (hW g hg)).trans (hc j u hj)⟩
theorem byt_new {w : World} {S : Nat → Prop} {A : Option Addr} {c : Nat} {b : List Int} (h : BytS w S A b.length c b) : 0 < b.length → ∃ g o, A = some ⟨g, o, none⟩ ∧ S g ∧ CellsAt w g o (b.map (Value.int .u8)) := fun h0 => by
  obtain ⟨g, o, e, hg, hc⟩ := h.2.2.2 h0
  refine ⟨g, o, e, hg, fun j u hj => ?_⟩
  have hjl := (List.getElem?_eq_some_iff.1 hj).1
  simp only [List.length_map] at hjl
  rw [hc j hjl, ← hj]
  simp [List.getD, hjl]
theorem nox_no {X : List Nat} {L : Array Bool} {p : Prop} (h : noX X L = false) : noX X L = true → p := fun h2 => by rw [h] at h2; cases h2
/-- A copy in new memory that may be written to. -/
def CpF (w : World) (x : Ob) (r : Ending) (w' : World) : Prop := ∃ d0 d1 d2 d3 d4, r = .returned (.agg #[d0, d1, d2, d3, d4]) ∧ ObR w' (fun g => w.heap.size ≤ g ∧ g < w'.heap.size ∧ ∀ o, w'.frozen? ⟨g, o, none⟩ = false) x d0 d1 d2 d3 d4 ∧ Below w.heap.size w w' ∧ CapD (fun g => w.heap.size ≤ g ∧ g < w'.heap.size ∧ ∀ o, w'.frozen? ⟨g, o, none⟩ = false) w' d2 d4 x
set_option maxHeartbeats 16000000 in
theorem pCopyF (KM W : Nat) (x : Ob) (hW : wdO W x) (hK : W * htO x ≤ KM) (hKm : KM ≤ 1000000000) (S : Nat → Prop) (w : World) (c0 c1 c2 c3 c4 : Value) (hx : ObR w S x c0 c1 c2 c3 c4) (hS : ∀ g, S g → g < w.heap.size) :
    Calls Try.prog 21 #[.agg #[c0, c1, c2, c3, c4]] w (CpF w x) := by
  have HST := Lib.hid (CyS.start hx hS hW hK)
  have HS := Lib.hid hS
  clear hx hW hK
  go_enter Try.func21, Try.ntmps21
  go_wp2_with fail
  go_loopg [3] x.sz (fun gm sv wr => ∃ (v : Value) (P : List Sp), sv = v ∧ spSum P ≤ gm ∧ Hid (CyS w wr S v P x KM W))
  case atStart => exact ⟨_, _, rfl, by simp [spSum], HST⟩
  case round =>
    clear HST
    obtain ⟨v, P, rfl, hgm, HC⟩ := hrel
    obtain ⟨AV, cV, hv⟩ := HC.out.own.shape
    rcases List.eq_nil_or_concat P with hP | ⟨P0, p, hP⟩
    · subst hP
      simp only [List.map_nil, List.length_nil] at hv
      subst hv
      obtain ⟨e0, e1, e2, e3, e4, ⟨f0, f1, f2, f3, f4⟩, hob, hcd⟩ := HC.out.wand wr (Nat.le_refl _) (fun _ _ _ _ _ _ => rfl) (fun _ _ _ _ cur T h => ⟨cur, h, rfl⟩) (fun p hp => by cases hp)
      have HR := Lib.hid HC.out.res
      have HL := Lib.hid HC.out.low
      obtain ⟨k, n, A2, m2, d2, A3, m3, d3, A4, m4, d4, rfl, rfl, rfl, rfl, rfl⟩ := hob.form
      have HOB := Lib.hid hob
      have HCD := Lib.hid hcd
      obtain ⟨q0, q1, q2, q3, q4, q5⟩ := zero_cells HR.out
      dsimp only at f0 f1 f2 f3 f4
      rw [Nat.zero_add] at f1 f2 f3 f4
      clear hob hcd HC
      go_wp2_with fail
      refine bodyPost_ret (results_cell_row rfl _ _ (w.heap.size + 1) 27 _ (0, 0) _ rfl (set5_row HR.out) Try.underlying27 rfl (by kernel_rfl)) rfl ?_
      exact ⟨_, _, _, _, _, rfl, ObR.keep (fun g hg => heap_set5 hg.2.2.1) (fun g hg => ⟨hg.1, by rw [size_set5]; exact hg.2.1, fun o => (frozen_blk (heap_set5 hg.2.2.1)).trans (hg.2.2.2.1 o)⟩) _ HOB.out, below_set5 HL.out (Nat.le_succ _), HCD.out.keep (fun g hg => heap_set5 hg.2.2.1) (fun g hg => ⟨hg.1, by rw [size_set5]; exact hg.2.1, fun o => (frozen_blk (heap_set5 hg.2.2.1)).trans (hg.2.2.2.1 o)⟩)⟩
    · have hP : P = P0 ++ [p] := by simpa using hP
      subst hP
      obtain ⟨m, hm⟩ : ∃ m, P0.length = m := ⟨_, rfl⟩
      have hvl : ((P0 ++ [p]).map spPtr).length = m + 1 := by simp [hm]
      rw [hvl] at hv
      have hcell := HC.out.own.cell (by rw [hvl]; omega)
      obtain ⟨gS, cS, hvS, hgS, hptr⟩ := hcell
      rw [hvl] at hvS
      rw [hv] at hvS
      injection hvS with hA hn hc
      subst hA hc
      subst hv
      have hc := hptr m (by rw [hvl]; omega)
      have hpe : ((P0 ++ [p]).map spPtr)[m]'(by rw [hvl]; omega) = spPtr p := by
        subst hm
        simp
      rw [hpe] at hc
      obtain ⟨⟨e0, e1, e2, e3, e4, hfive, hob⟩, hpg, hpg1, hpo, hpsh⟩ := HC.out.pend p (by simp)
      have hbnd := HC.out.bound m p (by subst hm; simp)
      have hcap : m + 1 ≤ cV := by
        have h1 := HC.out.own
        unfold OwnV at h1
        rw [hvl] at h1
        exact (row_cap h1).1
      have hOV1 := HC.out.own
      rw [show (P0 ++ [p]).map spPtr = P0.map spPtr ++ [spPtr p] by simp] at hOV1
      have hOVP := hOV1.pop (by simp [hm])
      clear hOV1
      obtain ⟨g, o, k, n, b, l, d⟩ := p
      dsimp only [spPtr] at hob hpg hpg1 hpo hpsh hbnd hc
      unfold ObR at hob
      obtain ⟨rfl, rfl, hk, hn, ⟨A2, m2, c2, rfl, hB⟩, ⟨A3, c3, rfl, h3, hl⟩, ⟨A4, c4, rfl, h4, hd⟩⟩ := hob
      have hm2 : b.length = m2 := hB.1
      subst hm2
      have hmb : m + (l.len + d.len) ≤ KM := by
        have h1 := hbnd.1
        have h2 := hbnd.2
        rw [htO] at h1
        unfold wdO at h2
        have h5 := Nat.mul_le_mul_left W (show 1 ≤ 1 + max (htL l) (htE d) by omega)
        omega
      have hbl : b.length ≤ 100000000 := by have h2 := hbnd.2; unfold wdO at h2; exact h2.1
      obtain ⟨csl, hLC, hLl, hL1, hLc⟩ := obs_new l hl
      obtain ⟨csd, hDC, hDl, hD1, hDc⟩ := ens_new d hd
      have HCB := Lib.hid (fun (Wx : World) (hW : ∀ g, S g → Wx.heap[g]? = wr.heap[g]?) => anewB A2 b.length c2 (b.map (Value.int .u8)) Wx (by simp) (cells_old hW (byt_new hB)) (fun u hu => by obtain ⟨z, _, rfl⟩ := List.mem_map.1 hu; rfl) (by omega))
      have HCO := Lib.hid (fun (Wx : World) (hW : ∀ g, S g → Wx.heap[g]? = wr.heap[g]?) => anewO A3 l.len c3 csl Wx hLl (cells_old hW hLc) hL1 (by omega))
      have HCE := Lib.hid (fun (Wx : World) (hW : ∀ g, S g → Wx.heap[g]? = wr.heap[g]?) => anewE A4 d.len c4 csd Wx hDl (cells_old hW hDc) hD1 (by omega))
      have HSR : Hid (∀ g, S g → g < wr.heap.size) := Lib.hid (fun g hg => by have := HS.out g hg; have := HC.out.low.size; omega)
      have HLC := Lib.hid hLC
      have HDC := Lib.hid hDC
      have HBR := Lib.hid hB.2.2.1
      have HKN := Lib.hid (And.intro hk hn)
      have HFV := Lib.hid hfive
      have HPO := Lib.hid hpo
      have HSH := Lib.hid hpsh
      have HOVP := Lib.hid hOVP
      have HM := Lib.hid hm
      have HGM := Lib.hid hgm
      have HGL : Hid (g < wr.heap.size) := Lib.hid (by obtain ⟨cur, T, e⟩ := hpsh; exact row_lt _ _ _ e)
      obtain ⟨f0, f1, f2, f3, f4⟩ := hfive
      dsimp only at f0 f1 f2 f3 f4
      have HEL : Hid (∀ Wx, Below wr.heap.size wr Wx → Wx.cell? ⟨g, o + 2, none⟩ = some (.slice A2 b.length c2) ∧ Wx.cell? ⟨g, o + 3, none⟩ = some (.slice A3 l.len c3) ∧ Wx.cell? ⟨g, o + 4, none⟩ = some (.slice A4 d.len c4) ∧ Wx.cell? ⟨g, o, none⟩ = some (.int .i64 k) ∧ Wx.cell? ⟨g, o + 1, none⟩ = some (.int .i64 n) ∧ (∀ i, Wx.frozen? ⟨g, i, none⟩ = false)) := Lib.hid (fun Wx hW => by
        have e := fun j => World.cell?_of_block (a := ⟨g, j, none⟩) (hW.block g HGL.out)
        refine ⟨(e _).trans f2, (e _).trans f3, (e _).trans f4, (e _).trans f0, (e _).trans f1, fun i => ?_⟩
        obtain ⟨cur, T, e⟩ := HSH.out
        have e2 := (hW.block g HGL.out).trans e
        simp [World.frozen?, e2])
      have hm1 : (m : Int) + 1 ≤ 10000000000 := by omega
      have hm3 : (m : Int) < cV := by omega
      have e3 : ¬ ((m : Int) + 1 = 0) := by omega
      clear hptr hgS hpe hvl hbnd hOVP hB hl hd hLC hLl hL1 hLc hDC hDl hD1 hDc hpsh hpo hk hn h3 h4 hgm hS
      go_upto_region 5 with fail
      refine wp_region_heldX (fun w' => w'.cell? ⟨g, o + 2, none⟩ = some (.slice A2 b.length c2) ∧ w'.cell? ⟨g, o + 3, none⟩ = some (.slice A3 l.len c3) ∧ w'.cell? ⟨g, o + 4, none⟩ = some (.slice A4 d.len c4)) [20, 23, 26] (by kernel_rfl) ⟨f2, f3, f4⟩ (fun hHeld => ?_)
      refine wpAnyX_pure 0 rfl (by kernel_rfl) (by kernel_rfl) (by kernel_rfl) (by kernel_rfl) (fun _ _ _ h => h) (by rfl) (v := ?_) ?_ (fun _ => hHeld) ?_
      rotate_left
      focus
        intro wS
        go_simp
        try with_reducible rfl
      try simp only [Act.put, List.setIfInBounds_toArray, List.set_cons_zero, List.set_cons_succ]
      refine wpAnyX_pure 1 rfl (by kernel_rfl) (by kernel_rfl) (by kernel_rfl) (by kernel_rfl) (fun _ _ _ h => h) (by rfl) (v := ?_) ?_ (fun _ => hHeld) ?_
      rotate_left
      focus
        intro wS
        go_simp
        try with_reducible rfl
      try simp only [Act.put, List.setIfInBounds_toArray, List.set_cons_zero, List.set_cons_succ]
      refine wpAnyX_pure 2 rfl (by kernel_rfl) (by kernel_rfl) (by kernel_rfl) (by kernel_rfl) (fun _ _ _ h => h) (by rfl) (v := ?_) ?_ (fun _ => hHeld) ?_
      rotate_left
      focus
        intro wS
        go_simp
        try with_reducible rfl
      try simp only [Act.put, List.setIfInBounds_toArray, List.set_cons_zero, List.set_cons_succ]
      refine wpAnyX_pure 3 rfl (by kernel_rfl) (by kernel_rfl) (by kernel_rfl) (by kernel_rfl) (fun _ _ _ h => h) (by rfl) (v := ?_) ?_ (fun _ => hHeld) ?_
      rotate_left
      focus
        intro wS
        go_simp
        try with_reducible rfl
      try simp only [Act.put, List.setIfInBounds_toArray, List.set_cons_zero, List.set_cons_succ]
      refine wpAnyX_pure 4 rfl (by kernel_rfl) (by kernel_rfl) (by kernel_rfl) (by kernel_rfl) (fun _ _ _ h => h) (by rfl) (v := ?_) ?_ (fun _ => hHeld) ?_
      rotate_left
      focus
        intro wS
        go_simp
        try with_reducible rfl
      try simp only [Act.put, List.setIfInBounds_toArray, List.set_cons_zero, List.set_cons_succ]
      refine wpAnyX_pure 5 rfl (by kernel_rfl) (by kernel_rfl) (by kernel_rfl) (by kernel_rfl) (fun _ _ _ h => h) (by rfl) (v := ?_) ?_ (fun _ => hHeld) ?_
      rotate_left
      focus
        intro wS
        go_simp
        try with_reducible rfl
      try simp only [Act.put, List.setIfInBounds_toArray, List.set_cons_zero, List.set_cons_succ]
      refine wpAnyX_take 6 rfl (by kernel_rfl) (by kernel_rfl) (by kernel_rfl) (by kernel_rfl) (by kernel_rfl) (by kernel_rfl) (fun _ _ _ h => h) (by rfl) (v := ?_) ?_ hHeld ?_
      rotate_left
      focus
        intro wS hSw
        (try dsimp only at hSw)
        go_simp
        try with_reducible rfl
      intro hHeld
      try simp only [Act.put, List.setIfInBounds_toArray, List.set_cons_zero, List.set_cons_succ]
      refine wpAnyX_pure 8 rfl (by kernel_rfl) (by kernel_rfl) (by kernel_rfl) (by kernel_rfl) (fun _ _ _ h => h) (by rfl) (v := ?_) ?_ (fun _ => hHeld) ?_
      rotate_left
      focus
        intro wS
        go_simp
        try with_reducible rfl
      try simp only [Act.put, List.setIfInBounds_toArray, List.set_cons_zero, List.set_cons_succ]
      refine wpAnyX_pure 9 rfl (by kernel_rfl) (by kernel_rfl) (by kernel_rfl) (by kernel_rfl) (fun _ _ _ h => h) (by rfl) (v := ?_) ?_ (fun _ => hHeld) ?_
      rotate_left
      focus
        intro wS
        go_simp
        try with_reducible rfl
      try simp only [Act.put, List.setIfInBounds_toArray, List.set_cons_zero, List.set_cons_succ]
      refine wpAnyX_pure 10 rfl (by kernel_rfl) (by kernel_rfl) (by kernel_rfl) (by kernel_rfl) (fun _ _ _ h => h) (by rfl) (v := ?_) ?_ (fun _ => hHeld) ?_
      rotate_left
      focus
        intro wS
        go_simp
        try with_reducible rfl
      try simp only [Act.put, List.setIfInBounds_toArray, List.set_cons_zero, List.set_cons_succ]
      refine wpAnyX_take 11 rfl (by kernel_rfl) (by kernel_rfl) (by kernel_rfl) (by kernel_rfl) (by kernel_rfl) (by kernel_rfl) (fun _ _ _ h => h) (by rfl) (v := ?_) ?_ hHeld ?_
      rotate_left
      focus
        intro wS hSw
        (try dsimp only at hSw)
        go_simp
        try with_reducible rfl
      intro hHeld
      try simp only [Act.put, List.setIfInBounds_toArray, List.set_cons_zero, List.set_cons_succ]
      refine wpAnyX_pure 13 rfl (by kernel_rfl) (by kernel_rfl) (by kernel_rfl) (by kernel_rfl) (fun _ _ _ h => h) (by rfl) (v := ?_) ?_ (fun _ => hHeld) ?_
      rotate_left
      focus
        intro wS
        go_simp
        try with_reducible rfl
      try simp only [Act.put, List.setIfInBounds_toArray, List.set_cons_zero, List.set_cons_succ]
      refine wpAnyX_pure 14 rfl (by kernel_rfl) (by kernel_rfl) (by kernel_rfl) (by kernel_rfl) (fun _ _ _ h => h) (by rfl) (v := ?_) ?_ (fun _ => hHeld) ?_
      rotate_left
      focus
        intro wS
        go_simp
        try with_reducible rfl
      try simp only [Act.put, List.setIfInBounds_toArray, List.set_cons_zero, List.set_cons_succ]
      refine wpAnyX_pure 15 rfl (by kernel_rfl) (by kernel_rfl) (by kernel_rfl) (by kernel_rfl) (fun _ _ _ h => h) (by rfl) (v := ?_) ?_ (fun _ => hHeld) ?_
      rotate_left
      focus
        intro wS
        go_simp
        try with_reducible rfl
      try simp only [Act.put, List.setIfInBounds_toArray, List.set_cons_zero, List.set_cons_succ]
      refine wpAnyX_take 16 rfl (by kernel_rfl) (by kernel_rfl) (by kernel_rfl) (by kernel_rfl) (by kernel_rfl) (by kernel_rfl) (fun _ _ _ h => h) (by rfl) (v := ?_) ?_ hHeld ?_
      rotate_left
      focus
        intro wS hSw
        (try dsimp only at hSw)
        go_simp
        try with_reducible rfl
      intro hHeld
      try simp only [Act.put, List.setIfInBounds_toArray, List.set_cons_zero, List.set_cons_succ]
      refine wpAnyX_step 7 rfl (by kernel_rfl) (fun K hK => ?_)
      go_simp
      go_at_call 44
      with_reducible refine (HCB.out wr.drew (fun _ _ => rfl)).mono ?_
      rintro r W2 ⟨Ab, cb, rfl, o1, b1', _⟩
      have b1 : Below wr.heap.size wr W2 := ⟨b1'.os, b1'.tape, b1'.output, b1'.size, b1'.block⟩
      have HO1 := Lib.hid (show W2.ownsRow wr.heap.size 5 1 (.slice Ab b.length cb) b.length (b.map (Value.int .u8)) from o1)
      have HB1 := Lib.hid b1
      clear o1 b1' b1
      go_wp2_with fail
      have hHeld := (show _ ∧ _ ∧ _ from (⟨(HEL.out W2 HB1.out).1, (HEL.out W2 HB1.out).2.1, (HEL.out W2 HB1.out).2.2.1⟩))
      refine hK.out _ _ hHeld ?_
      clear hK K
      try simp only [Act.put, List.setIfInBounds_toArray, List.set_cons_zero, List.set_cons_succ]
      refine wpAnyX_step 12 rfl (by kernel_rfl) (fun K hK => ?_)
      go_simp
      go_at_call 45
      with_reducible refine (HCO.out W2 (fun g hg => HB1.out.block g (HSR.out g hg))).mono ?_
      rintro r W3 ⟨Al, cl, rfl, o2, b2, _⟩
      have HO2 := Lib.hid o2
      have HB2 := Lib.hid b2
      have HB12 := Lib.hid (HB1.out.trans (b2.mono HB1.out.size))
      clear o2 b2
      go_wp2_with fail
      have hHeld := (show _ ∧ _ ∧ _ from (⟨(HEL.out W3 HB12.out).1, (HEL.out W3 HB12.out).2.1, (HEL.out W3 HB12.out).2.2.1⟩))
      refine hK.out _ _ hHeld ?_
      clear hK K
      try simp only [Act.put, List.setIfInBounds_toArray, List.set_cons_zero, List.set_cons_succ]
      refine wpAnyX_step 17 rfl (by kernel_rfl) (fun K hK => ?_)
      go_simp
      go_at_call 46
      with_reducible refine (HCE.out W3 (fun g hg => HB12.out.block g (HSR.out g hg))).mono ?_
      rintro r W4 ⟨Ad, cd, rfl, o3, b3, hdn⟩
      have HO3 := Lib.hid o3
      have HDN := Lib.hid hdn
      have HB3 := Lib.hid b3
      have HB13 := Lib.hid (HB12.out.trans (b3.mono HB12.out.size))
      clear o3 b3 hdn
      go_wp2_with fail
      have hHeld := (show _ ∧ _ ∧ _ from (⟨(HEL.out W4 HB13.out).1, (HEL.out W4 HB13.out).2.1, (HEL.out W4 HB13.out).2.2.1⟩))
      refine hK.out _ _ hHeld ?_
      clear hK K
      try simp only [Act.put, List.setIfInBounds_toArray, List.set_cons_zero, List.set_cons_succ]
      obtain ⟨t2, t3, t4, t0, t1, fz⟩ := HEL.out W4 HB13.out
      refine wpAnyX_pure 18 rfl (by kernel_rfl) (by kernel_rfl) (by kernel_rfl) (by kernel_rfl) (fun _ _ _ h => h) (by rfl) (v := ?_) ?_ (fun _ => hHeld) ?_
      rotate_left
      focus
        intro wS
        go_simp
        try with_reducible rfl
      try simp only [Act.put, List.setIfInBounds_toArray, List.set_cons_zero, List.set_cons_succ]
      refine wpAnyX_pure 19 rfl (by kernel_rfl) (by kernel_rfl) (by kernel_rfl) (by kernel_rfl) (fun _ _ _ h => h) (by rfl) (v := ?_) ?_ (fun _ => hHeld) ?_
      rotate_left
      focus
        intro wS
        go_simp
        try with_reducible rfl
      try simp only [Act.put, List.setIfInBounds_toArray, List.set_cons_zero, List.set_cons_succ]
      refine wpAnyX_store 20 rfl (by kernel_rfl) (by kernel_rfl) (fun K hK => ?_)
      go_simp
      refine hK.out _ _ ?_
      clear hK K
      try simp only [Act.put, List.setIfInBounds_toArray, List.set_cons_zero, List.set_cons_succ]
      refine wpAnyX_pure 21 rfl (by kernel_rfl) (by kernel_rfl) (by kernel_rfl) (by kernel_rfl) (fun _ _ _ h => h) (by rfl) (v := ?_) ?_ (nox_no (by kernel_rfl)) ?_
      rotate_left
      focus
        intro wS
        go_simp
        try with_reducible rfl
      try simp only [Act.put, List.setIfInBounds_toArray, List.set_cons_zero, List.set_cons_succ]
      refine wpAnyX_pure 22 rfl (by kernel_rfl) (by kernel_rfl) (by kernel_rfl) (by kernel_rfl) (fun _ _ _ h => h) (by rfl) (v := ?_) ?_ (nox_no (by kernel_rfl)) ?_
      rotate_left
      focus
        intro wS
        go_simp
        try with_reducible rfl
      try simp only [Act.put, List.setIfInBounds_toArray, List.set_cons_zero, List.set_cons_succ]
      refine wpAnyX_store 23 rfl (by kernel_rfl) (by kernel_rfl) (fun K hK => ?_)
      go_simp
      refine hK.out _ _ ?_
      clear hK K
      try simp only [Act.put, List.setIfInBounds_toArray, List.set_cons_zero, List.set_cons_succ]
      refine wpAnyX_pure 24 rfl (by kernel_rfl) (by kernel_rfl) (by kernel_rfl) (by kernel_rfl) (fun _ _ _ h => h) (by rfl) (v := ?_) ?_ (nox_no (by kernel_rfl)) ?_
      rotate_left
      focus
        intro wS
        go_simp
        try with_reducible rfl
      try simp only [Act.put, List.setIfInBounds_toArray, List.set_cons_zero, List.set_cons_succ]
      refine wpAnyX_pure 25 rfl (by kernel_rfl) (by kernel_rfl) (by kernel_rfl) (by kernel_rfl) (fun _ _ _ h => h) (by rfl) (v := ?_) ?_ (nox_no (by kernel_rfl)) ?_
      rotate_left
      focus
        intro wS
        go_simp
        try with_reducible rfl
      try simp only [Act.put, List.setIfInBounds_toArray, List.set_cons_zero, List.set_cons_succ]
      refine wpAnyX_store 26 rfl (by kernel_rfl) (by kernel_rfl) (fun K hK => ?_)
      go_simp
      refine hK.out _ _ ?_
      clear hK K
      try simp only [Act.put, List.setIfInBounds_toArray, List.set_cons_zero, List.set_cons_succ]
      refine wpAnyX_done (by kernel_rfl) ?_
      refine NoPanic.normal ?_
      obtain ⟨gl, gd, hn3⟩ := new3_of (w := w) HBR.out HO1.out HB1.out HO2.out HB2.out HO3.out HB3.out HDN.out HLC.out HDC.out
      have hst := St3.of (p := ⟨g, o, .mk k n b l d⟩) ⟨t0, t1, t2, t3, t4⟩ (.slice Ab b.length cb) (.slice Al l.len cl) (.slice Ad d.len cd)
      have h5l := ((((HC.out.low.trans (HB13.out.mono HC.out.low.size)).setCell (p := ⟨g, o + 2, none⟩) hpg (.slice Ab b.length cb)).setCell (p := ⟨g, o + 3, none⟩) hpg (.slice Al l.len cl)).setCell (p := ⟨g, o + 4, none⟩) hpg (.slice Ad d.len cd))
      obtain ⟨W5, hW5⟩ : ∃ W5, ((W4.setCell ⟨g, o + 2, none⟩ (.slice Ab b.length cb)).setCell ⟨g, o + 3, none⟩ (.slice Al l.len cl)).setCell ⟨g, o + 4, none⟩ (.slice Ad d.len cd) = W5 := ⟨_, rfl⟩
      dsimp only at hst
      rw [hW5] at hst h5l ⊢
      have HN3 := Lib.hid hn3
      have H5 := Lib.hid hst
      have H5L := Lib.hid h5l
      have hz5 : wr.heap.size ≤ W5.heap.size := by rw [hst.size]; exact HB13.out.size
      have HOV5 := Lib.hid (HOVP.out.same (w' := W5) (fun b hb => by
        have h1 := HOVP.out.lt b hb
        have h2 : b ≠ g := fun e => HPO.out (by rw [← e]; exact hb)
        rw [hst.block b h2]
        exact HB13.out.block b h1.1))
      have HZ5 : Hid (g < W5.heap.size) := Lib.hid (by have := HGL.out; omega)
      have HZW : Hid (w.heap.size + 2 ≤ W5.heap.size) := Lib.hid (by have := HOVP.out.lt gS rfl; omega)
      have HLcell : Hid (∀ sv wq, KeepX (.slice (some ⟨gS, 0, none⟩) m cV) W5 sv wq → wq.cell? ⟨g, o + 3, none⟩ = some (.slice Al l.len cl) ∧ wq.cell? ⟨g, o + 4, none⟩ = some (.slice Ad d.len cd)) := Lib.hid (fun sv wq hk => by
        have e := fun j => World.cell?_of_block (a := ⟨g, j, none⟩) (hk.block g HZ5.out HPO.out)
        exact ⟨(e _).trans hst.five.2.2.2.1, (e _).trans hst.five.2.2.2.2⟩)
      obtain ⟨v3, v4⟩ := HLcell.out _ _ (KeepX.refl _ W5)
      obtain ⟨LL, hLL⟩ : ∃ LL, l.len = LL := ⟨_, rfl⟩
      obtain ⟨DD, hDD⟩ : ∃ DD, d.len = DD := ⟨_, rfl⟩
      rw [hLL] at v3 HLcell hmb
      rw [hDD] at v4 HLcell hmb
      have HLL := Lib.hid hLL
      have HDD := Lib.hid hDD
      clear hW5 hn3 hst h5l hz5 t0 t1 t2 t3 t4 fz hHeld f0 f1 f2 f3 f4 hc HEL HCB HCO HCE hLL hDD HOVP hpg hpg1
      go_wp2_with fail
      go_loopw [3, 51] (fun sv iv wq => ∃ (i cW : Nat) (AW : Option Addr), i ≤ LL ∧ iv = .int .i64 i ∧ sv = .slice AW (m + i) cW ∧ Hid (OwnV wq (w.heap.size + 2) 61 (.slice AW (m + i) cW) ((P0 ++ (obsSp gl 0 l).take i).map spPtr)) ∧ Hid (KeepX (.slice (some ⟨gS, 0, none⟩) m cV) W5 (.slice AW (m + i) cW) wq)) (fun _ iv _ => LL - (intOf iv).toNat)
      case atStart => exact ⟨0, cV, _, Nat.zero_le _, rfl, rfl, by simpa using HOV5, Lib.hid (KeepX.refl _ _)⟩
      case round =>
        obtain ⟨i, cW, AW, hi, rfl, rfl, HOV, HKX⟩ := hrel
        obtain ⟨v3', v4'⟩ := HLcell.out _ _ HKX.out
        by_cases hlt : i < LL
        · have hlz : (i : Int) < (LL : Int) := by omega
          obtain ⟨hAl, hgl, _, _⟩ := HN3.out.items (by rw [HLL.out]; omega)
          obtain ⟨oz, hoz⟩ : ∃ oz : Nat, oz = 0 := ⟨0, rfl⟩
          rw [← hoz] at hAl
          subst hAl
          have hlen : ((P0 ++ (obsSp gl 0 l).take i).map spPtr).length = m + i := by
            have := obsSp_len gl l 0
            have := HM.out
            have := HLL.out
            simp; omega
          have HAP := Lib.hid (HOV.out.lit1 gl (oz + i * 5) (by rw [hlen]; omega) (Nat.le_trans HZW.out HKX.out.size))
          rw [hlen] at HAP
          have hnx : (P0 ++ (obsSp gl 0 l).take i).map spPtr ++ [.pointer (some ⟨gl, oz + i * 5, none⟩)] = (P0 ++ (obsSp gl 0 l).take (i + 1)).map spPtr := by
            have hl2 : i < (obsSp gl 0 l).length := by rw [obsSp_len, HLL.out]; exact hlt
            obtain ⟨e1, e2, _⟩ := obsSp_get gl l 0 i _ (List.getElem?_eq_getElem hl2)
            rw [List.take_succ_eq_append_getElem hl2]
            simp only [List.map_append, List.map_cons, List.map_nil, List.append_assoc]
            congr 2
            simp only [spPtr, e1, e2, hoz]
          rw [hnx] at HAP
          have hcl : (LL : Int) ≤ cl := by have := HN3.out.lcap.1; rw [HLL.out] at this; omega
          have hmi : (m : Int) + (i : Int) ≤ 1000000000 := by omega
          clear hlen hnx hgl v4' HOV hoz
          go_wp2_with (at_builtin; obtain ⟨A6, c6, w6, hrun, ho6, hk6⟩ := HAP.out; refine Lib.wpList_append_run_sl _ rfl (.tmp 54) (.tmp 61) 62 rfl _ _ rfl rfl hrun ?_; clear hrun; have HO6 := Lib.hid ho6; have HK6 := Lib.hid (HKX.out.trans hk6); clear ho6 hk6)
          go_roundw
          case rel => exact ⟨i + 1, c6, A6, by omega, by go_num, rfl, HO6, HK6⟩
          case measure => simp [intOf]; omega
        · obtain rfl : LL = i := by omega
          rw [List.take_of_length_le (by rw [obsSp_len, HLL.out]; exact Nat.le_refl _)] at HOV
          clear v3 v4 v3' hlt
          go_wp2_with fail
          go_loopw [3, 69] (fun sv iv wq => ∃ (i cW : Nat) (AW : Option Addr), i ≤ DD ∧ iv = .int .i64 i ∧ sv = .slice AW (m + LL + i) cW ∧ Hid (OwnV wq (w.heap.size + 2) 61 (.slice AW (m + LL + i) cW) ((P0 ++ (obsSp gl 0 l ++ (ensSp gd 0 d).take i)).map spPtr)) ∧ Hid (KeepX (.slice (some ⟨gS, 0, none⟩) m cV) W5 (.slice AW (m + LL + i) cW) wq)) (fun _ iv _ => DD - (intOf iv).toNat)
          case atStart => exact ⟨0, cW, AW, Nat.zero_le _, rfl, rfl, by simpa using HOV, HKX⟩
          case round =>
            clear HOV HKX v4'
            obtain ⟨i, cX, AX, hi2, rfl, rfl, HOV, HKX⟩ := hrel
            obtain ⟨v3', v4'⟩ := HLcell.out _ _ HKX.out
            clear v3'
            by_cases hlt : i < DD
            · have hlz : (i : Int) < (DD : Int) := by omega
              obtain ⟨hAd, hgd, _, _⟩ := HN3.out.entries (by rw [HDD.out]; omega)
              obtain ⟨oz, hoz⟩ : ∃ oz : Nat, oz = 0 := ⟨0, rfl⟩
              rw [← hoz] at hAd
              subst hAd
              have hlen : ((P0 ++ (obsSp gl 0 l ++ (ensSp gd 0 d).take i)).map spPtr).length = m + LL + i := by
                have := obsSp_len gl l 0
                have := ensSp_len gd d 0
                have := HM.out
                have := HLL.out
                have := HDD.out
                simp; omega
              have HAP := Lib.hid (HOV.out.lit1 gd (oz + i * 6 + 1) (by rw [hlen]; omega) (Nat.le_trans HZW.out HKX.out.size))
              rw [hlen] at HAP
              have hnx : (P0 ++ (obsSp gl 0 l ++ (ensSp gd 0 d).take i)).map spPtr ++ [.pointer (some ⟨gd, oz + i * 6 + 1, none⟩)] = (P0 ++ (obsSp gl 0 l ++ (ensSp gd 0 d).take (i + 1))).map spPtr := by
                have hl2 : i < (ensSp gd 0 d).length := by rw [ensSp_len, HDD.out]; exact hlt
                obtain ⟨e1, e2, _⟩ := ensSp_get gd d 0 i _ (List.getElem?_eq_getElem hl2)
                rw [List.take_succ_eq_append_getElem hl2]
                simp only [List.map_append, List.map_cons, List.map_nil, List.append_assoc]
                congr 3
                simp only [spPtr, e1, e2, hoz]
              rw [hnx] at HAP
              have hcl : (DD : Int) ≤ cd := by have := HN3.out.dcap.1; rw [HDD.out] at this; omega
              have hmi : (m : Int) + (LL : Int) + (i : Int) ≤ 1000000000 := by omega
              clear hlen hnx hgd HOV hoz
              go_wp2_with (at_builtin; obtain ⟨A6, c6, w6, hrun, ho6, hk6⟩ := HAP.out; refine Lib.wpList_append_run_sl _ rfl (.tmp 72) (.tmp 80) 62 rfl _ _ rfl rfl hrun ?_; clear hrun; have HO6 := Lib.hid ho6; have HK6 := Lib.hid (HKX.out.trans hk6); clear ho6 hk6)
              go_roundw
              case rel => exact ⟨i + 1, c6, A6, by omega, by go_num, rfl, HO6, HK6⟩
              case measure => simp [intOf]; omega
            · obtain rfl : DD = i := by omega
              rw [List.take_of_length_le (by rw [ensSp_len, HDD.out]; exact Nat.le_refl _)] at HOV
              clear v4' hlt
              go_wp2_with fail
              go_roundg (spSum (P0 ++ (obsSp gl 0 l ++ ensSp gd 0 d)))
              case measure =>
                have h1 := HGM.out
                rw [spSum_app] at h1 ⊢
                rw [spSum_app, spSum_obs, spSum_ens]
                simp only [spSum, Ob.sz] at h1
                omega
              case rel =>
                exact ⟨_, _, rfl, Nat.le_refl _, Lib.hid (CyS.step (vp := .slice (some ⟨gS, 0, none⟩) m cV) HC.out HS.out rfl HKN.out.1 HKN.out.2 HN3.out H5.out H5L.out rfl HKX.out HOV.out)⟩
theorem pCopyC (KM W : Nat) (x : Ob) (hW : wdO W x) (hK : W * htO x ≤ KM) (hKm : KM ≤ 1000000000) (S : Nat → Prop) (w : World) (c0 c1 c2 c3 c4 : Value) (hx : ObR w S x c0 c1 c2 c3 c4) (hS : ∀ g, S g → g < w.heap.size) :
    Calls Try.prog 21 #[.agg #[c0, c1, c2, c3, c4]] w (CpP w x) :=
  (pCopyF KM W x hW hK hKm S w c0 c1 c2 c3 c4 hx hS).mono fun r w' ⟨d0, d1, d2, d3, d4, e, h, hb, _⟩ => ⟨d0, d1, d2, d3, d4, e, ObR.keep (fun _ _ => rfl) (fun g hg => ⟨hg.1, hg.2.1⟩) _ h, hb⟩
end

section
open Go.RowKit Go.Sort
set_option linter.unusedVariables false
set_option maxRecDepth 100000
/-- The cells of rows. -/
def flatR (rs : List Rw) : List Value := rs.flatMap encR
theorem flatR_cons (r : Rw) (rs : List Rw) : flatR (r :: rs) = encR r ++ flatR rs := by unfold flatR; rw [List.flatMap_cons]
theorem flatR_app (a b : List Rw) : flatR (a ++ b) = flatR a ++ flatR b := by unfold flatR; rw [List.flatMap_append]
theorem flatR_len : ∀ rs : List Rw, (flatR rs).length = rs.length * 6
  | [] => rfl
  | r :: rs => by rw [flatR_cons, List.length_append, flatR_len rs, encR_len, List.length_cons]; omega
theorem flatR_one (rs : List Rw) : ∀ u ∈ flatR rs, u.oneCell' = true := fun u hu => by
  unfold flatR at hu
  obtain ⟨r, _, hr⟩ := List.mem_flatMap.1 hu
  exact encR_one r u hr
theorem flatR_get : ∀ (rs : List Rw) (i : Nat) (r : Rw) (c : Nat), rs[i]? = some r → c < 6 → (flatR rs)[i * 6 + c]? = (encR r)[c]?
  | [], i, r, c, h, _ => by simp at h
  | q :: rs, 0, r, c, h, hc => by
    simp at h; subst h
    rw [flatR_cons, Nat.zero_mul, Nat.zero_add, List.getElem?_append_left (by rw [encR_len]; exact hc)]
  | q :: rs, i + 1, r, c, h, hc => by
    rw [flatR_cons, List.getElem?_append_right (by rw [encR_len]; omega), encR_len, show (i + 1) * 6 + c - 6 = i * 6 + c by omega]
    exact flatR_get rs i r c (by simpa using h) hc
theorem CellsAt.six {w : World} {g o : Nat} {rs : List Rw} (h : CellsAt w g o (flatR rs)) (i : Nat) (r : Rw) (hi : rs[i]? = some r) :
    w.cell? ⟨g, o + i * 6, none⟩ = some (.string r.s) ∧ w.cell? ⟨g, o + i * 6 + 1, none⟩ = some (.int .i64 r.k) ∧ w.cell? ⟨g, o + i * 6 + 2, none⟩ = some (.int .i64 r.n) ∧ w.cell? ⟨g, o + i * 6 + 3, none⟩ = some (.slice r.A2 r.m2 r.c2) ∧ w.cell? ⟨g, o + i * 6 + 4, none⟩ = some (.slice r.A3 r.m3 r.c3) ∧ w.cell? ⟨g, o + i * 6 + 5, none⟩ = some (.slice r.A4 r.m4 r.c4) := by
  have e := fun c hc => flatR_get rs i r c hi hc
  have k := fun c u (hc : c < 6) (hu : (encR r)[c]? = some u) => h (i * 6 + c) u ((e c hc).trans hu)
  refine ⟨k 0 _ (by omega) rfl, ?_, ?_, ?_, ?_, ?_⟩
  · have := k 1 _ (by omega) rfl; rwa [← Nat.add_assoc] at this
  · have := k 2 _ (by omega) rfl; rwa [← Nat.add_assoc] at this
  · have := k 3 _ (by omega) rfl; rwa [← Nat.add_assoc] at this
  · have := k 4 _ (by omega) rfl; rwa [← Nat.add_assoc] at this
  · have := k 5 _ (by omega) rfl; rwa [← Nat.add_assoc] at this
theorem flatK_get (d : Array Rw) (j : Nat) (hj : j < d.size * 6) : (flatR d.toList)[j]? = some ((flatK encR 6 d)[j]!) := by
  have hi : j / 6 < d.size := by omega
  have h1 := flatR_get d.toList (j / 6) (d[j / 6]'hi) (j % 6) (by simp [hi]) (by omega)
  rw [show j / 6 * 6 + j % 6 = j by omega] at h1
  rw [h1, get_flatK _ _ _ _ hj, getElem!_pos d _ hi]
  have : j % 6 < (encR (d[j / 6]'hi)).length := by rw [encR_len]; omega
  rw [List.getElem?_eq_getElem this]
  congr 1
  exact (getElem!_pos (encR (d[j / 6]'hi)) (j % 6) this).symm
theorem holdsK_flat {w : World} {g : Nat} {d : Array Rw} (h : CellsAt w g 0 (flatR d.toList)) (hsh : ∃ cur T, w.heap[g]? = some (.cells cur T (0, 0))) : HoldsK encR 6 w g 0 d := by
  intro j hj
  rw [size_flatK] at hj
  refine ⟨h j _ (flatK_get d j hj), ?_⟩
  obtain ⟨cur, T, e⟩ := hsh
  simp [World.frozen?, e]
theorem flat_holdsK {w : World} {g : Nat} {d : Array Rw} (h : HoldsK encR 6 w g 0 d) : CellsAt w g 0 (flatR d.toList) := by
  intro j u hj
  have hjl := (List.getElem?_eq_some_iff.1 hj).1
  rw [flatR_len, Array.length_toList] at hjl
  have h1 := (h j (by rw [size_flatK]; exact hjl)).1
  rw [flatK_get d j hjl] at hj
  rw [h1]
  exact hj
theorem insertC0 (v f : Value) (w : World) : Calls Try.prog 91 #[v, .int .i64 0, .int .i64 0, f] w fun e w' => e = .returned (.tuple #[]) ∧ w = w' := by
  go_enter Try.func91, Try.ntmps91
  go_wp2
  go_loop [8] (fun iv => iv = .int .i64 1) (fun _ => 0)
  case atStart => exact rfl
  case round =>
    obtain rfl := hrel
    go_wp2
    go_end0
    exact ⟨rfl, rfl⟩
theorem stableC0 (v f : Value) (w : World) : Calls Try.prog 86 #[v, .int .i64 0, f] w fun e w' => e = .returned (.tuple #[]) ∧ w = w' := by
  go_enter Try.func86, Try.ntmps86
  go_wp2_with fail
  go_loop [7, 8] (fun av bv => av = .int .i64 0 ∧ bv = .int .i64 20) (fun _ _ => 0)
  case atStart => exact ⟨rfl, rfl⟩
  case round =>
    obtain ⟨rfl, rfl⟩ := hrel
    go_wp2_with (go_at_call 91; refine (insertC0 _ _ _).mono ?_; rintro e w' ⟨rfl, rfl⟩)
    go_loop [6] (fun sv => sv = .int .i64 20) (fun _ => 0)
    case atStart => exact rfl
    case round =>
      obtain rfl := hrel
      go_wp2_with fail
      go_end0
      exact ⟨rfl, rfl⟩
theorem sortC0 (f : Value) (w : World) : Calls Try.prog 74 #[.slice none 0 0, f] w fun e w' => e = .returned (.tuple #[]) ∧ w = w' := by
  go_enter Try.func74, Try.ntmps74
  go_wp2_with (go_at_call 86; refine (stableC0 _ _ _).mono ?_; rintro e w' ⟨rfl, rfl⟩)
  go_end0
  exact ⟨rfl, rfl⟩
theorem sortC (w0 : World) (blk cap B : Nat) (d : Array Rw) (N : Nat) (hC : CmpOk w0 blk B) (hN : d.size = N) (hH : HoldsK encR 6 w0 blk 0 d) (hblk : blk < w0.heap.size) (hsz : N < 1000000000000) :
    Calls Try.prog 74 #[.slice (some ⟨blk, 0, none⟩) N cap, cmpF B] w0 fun e w' => e = .returned (.tuple #[]) ∧ ∃ d' : Array Rw, Srt keyR d'.toList ∧ Stb keyR d.toList d'.toList ∧ d'.size = N ∧ CellsAt w' blk 0 (flatR d'.toList) ∧ Only blk w0 w' := by
  have R : RW6 w0 blk 0 d := ⟨encR_len, encR_one, hH, hblk⟩
  have HST := Lib.hid (stableC w0 blk 0 cap B d d N w0 R hC hN.symm hN (SWK.start hH) hsz)
  have HR := Lib.hid R
  have HN := Lib.hid hN
  clear hC hH R hN hblk
  go_enter Try.func74, Try.ntmps74
  go_wp2_with (go_at_call 86; (with_reducible refine HST.out.mono ?_); (rintro e w' ⟨rfl, d', h1, h2, h3, h4⟩); have H1 := Lib.hid h1; have H2 := Lib.hid h2; have H3 := Lib.hid h3; have H4 := Lib.hid h4; clear h1 h2 h3 h4 HST)
  go_end0
  exact ⟨rfl, d', H1.out, H2.out, H3.out, flat_holdsK (SW6.holds H4.out HR.out (by rw [H3.out, HN.out])), SW6.only H4.out⟩
/-- A slice of rows. -/
def RowsV (w : World) (A : Option Addr) (rs : List Rw) : Prop := 0 < rs.length → ∃ g o, A = some ⟨g, o, none⟩ ∧ g < w.heap.size ∧ CellsAt w g o (flatR rs)
theorem RowsV.below {w w' : World} {A : Option Addr} {rs : List Rw} (h : RowsV w A rs) (hb : Below w.heap.size w w') : RowsV w' A rs := fun h0 => by
  obtain ⟨g, o, e, hg, hc⟩ := h h0
  exact ⟨g, o, e, Nat.lt_of_lt_of_le hg hb.size, fun j u hj => (World.cell?_of_block (a := ⟨g, o + j, none⟩) (hb.block g hg)).trans (hc j u hj)⟩
/-- What rising leaves. -/
def RisP (rs : List Rw) (w : World) (e : Ending) (w' : World) : Prop := ∃ A c rs', e = .returned (.slice A rs.length c) ∧ Srt keyR rs' ∧ Stb keyR rs rs' ∧ (rs.length ≤ c ∧ c ≤ 9223372036854775807) ∧ (0 < rs.length → ∃ g, A = some ⟨g, 0, none⟩ ∧ w.heap.size ≤ g ∧ g < w'.heap.size ∧ CellsAt w' g 0 (flatR rs')) ∧ Below w.heap.size w w'
set_option maxHeartbeats 1000000 in
theorem risingR (rs : List Rw) (A : Option Addr) (c : Nat) (w : World) (hA : RowsV w A rs) (hlen : rs.length ≤ 1000000000) :
    Calls Try.prog 50 #[.slice A rs.length c, .func (.func 51) #[] #[]] w (RisP rs w) := by
  have hb1 := (Below.refl w.heap.size w).alloc (Nat.le_refl _) (.cells #[.func (.func 51) #[] #[]] 67)
  have hn1 := heap_alloc_new w (.cells #[.func (.func 51) #[] #[]] 67)
  have hs1 : (w.alloc (.cells #[.func (.func 51) #[] #[]] 67)).heap.size = w.heap.size + 1 := by simp
  obtain ⟨W1, hW1⟩ : ∃ W1, w.alloc (.cells #[.func (.func 51) #[] #[]] 67) = W1 := ⟨_, rfl⟩
  rw [hW1] at hb1 hn1 hs1
  have HAN := Lib.hid (anewE A rs.length c (flatR rs) W1 (flatR_len rs) (fun h0 => by
    obtain ⟨g, o, e, _, hc⟩ := hA.below hb1 h0
    exact ⟨g, o, e, hc⟩) (flatR_one rs) (by omega))
  have HB1 := Lib.hid hb1
  have HN1 := Lib.hid hn1
  have HS1 := Lib.hid hs1
  obtain ⟨N, hN⟩ : ∃ N, rs.length = N := ⟨_, rfl⟩
  rw [hN] at HAN hlen ⊢
  have HN := Lib.hid hN
  clear hb1 hn1 hs1 hA hN
  by_cases h0 : N = 0
  · have H0 := Lib.hid h0
    clear h0
    go_enter Try.func50, Try.ntmps50
    go_wp2_with (first | (go_at_call 46; (with_reducible refine HAN.out.mono ?_); (rintro r W2 ⟨A2, c2, rfl, o2, b2, h2⟩); (obtain ⟨rfl, rfl⟩ := h2 H0.out); have HB2 := Lib.hid b2; clear o2 b2 h2 HAN) | (go_at_call 74; rw [H0.out]; refine (sortC0 _ _).mono ?_; rintro e w' ⟨rfl, rfl⟩))
    go_ret
    have hr : rs = [] := List.eq_nil_of_length_eq_zero (by rw [HN.out]; exact H0.out)
    subst hr
    exact ⟨none, 0, [], rfl, Srt.nil, Stb.refl _, ⟨by simp, by simp⟩, fun h => by simp at h, HB1.out.trans (HB2.out.mono HB1.out.size)⟩
  · have H0 : Hid (0 < N) := Lib.hid (by omega)
    clear h0
    have HSO : Hid (∀ W2 A2 c2, W2.ownsRow W1.heap.size 32 6 (.slice A2 N c2) N (flatR rs) → Below W1.heap.size W1 W2 → Calls Try.prog 74 #[.slice A2 N c2, cmpF w.heap.size] W2 fun e w' => e = .returned (.tuple #[]) ∧ ∃ (rs' : List Rw) (g : Nat), A2 = some ⟨g, 0, none⟩ ∧ w.heap.size ≤ g ∧ g < w'.heap.size ∧ Srt keyR rs' ∧ Stb keyR rs rs' ∧ CellsAt w' g 0 (flatR rs') ∧ Only g W2 w' ∧ W1.heap.size ≤ g ∧ g < W2.heap.size) := Lib.hid (fun W2 A2 c2 ho hb => by
      obtain ⟨g, e, h1, h2, h3, h4⟩ := row_block ho H0.out
      subst e
      have hs1 := HS1.out
      have hC : CmpOk W2 g w.heap.size := ⟨by have := hb.size; omega, by omega, by
        rw [World.cell?_of_block (a := ⟨w.heap.size, 0, none⟩) (hb.block w.heap.size (by omega)), cell_of_row _ _ 0 _ _ (0, 0) HN1.out]; rfl⟩
      refine (sortC W2 g c2 w.heap.size rs.toArray N hC (by simp; exact HN.out) (holdsK_flat h4 h3) h2 (by omega)).mono ?_
      rintro e w' ⟨rfl, d', k1, k2, k3, k4, k5⟩
      exact ⟨rfl, d'.toList, g, rfl, by omega, Nat.lt_of_lt_of_le h2 k5.size, k1, by simpa using k2, k4, k5, h1, h2⟩)
    go_enter Try.func50, Try.ntmps50
    go_wp2_with (first | (go_at_call 46; (with_reducible refine HAN.out.mono ?_); (rintro r W2 ⟨A2, c2, rfl, o2, b2, h2⟩); have HO2 := Lib.hid o2; have HB2 := Lib.hid b2; clear o2 b2 h2 HAN) | (go_at_call 74; (with_reducible refine (HSO.out W2 A2 c2 HO2.out HB2.out).mono ?_); (rintro e w' ⟨rfl, rs', g, eA, p1, p2, p3, p4, p5, p6, p7, p8⟩); have HE := Lib.hid eA; have P1 := Lib.hid p1; have P2 := Lib.hid p2; have P3 := Lib.hid p3; have P4 := Lib.hid p4; have P5 := Lib.hid p5; have P6 := Lib.hid p6; have P7 := Lib.hid p7; have P8 := Lib.hid p8; clear eA p1 p2 p3 p4 p5 p6 p7 p8 HSO))
    go_ret
    exact ⟨A2, c2, rs', by rw [HN.out]; rfl, P3.out, P4.out, by rw [HN.out]; exact row_cap HO2.out, fun _ => ⟨g, HE.out, P1.out, P2.out, P5.out⟩, (HB1.out.trans (HB2.out.mono HB1.out.size)).trans ((P6.out.below (Nat.le_of_lt P8.out)).mono P1.out)⟩
end

section
open Go.RowKit Go.Sort
set_option linter.unusedVariables false
set_option maxRecDepth 100000
def keepL (p : Nat → Bool) : Nat → List Rw → List Rw
  | _, [] => []
  | i, r :: rs => if p i = true then r :: keepL p (i + 1) rs else keepL p (i + 1) rs
theorem keepL_len (p : Nat → Bool) : ∀ (i : Nat) (rs : List Rw), (keepL p i rs).length ≤ rs.length
  | _, [] => Nat.le_refl _
  | i, r :: rs => by
    have := keepL_len p (i + 1) rs
    rw [keepL]; split <;> simp <;> omega
/-- One more row, out of a literal. -/
theorem own_lit6 {w : World} {base n : Nat} {v : Value} {ks : List Rw} (h : w.ownsRow base 32 6 v n (flatR ks)) (hn : ks.length = n) (r : Rw) (hl : n ≤ 1000000000) (hbase : base ≤ w.heap.size) :
    ∃ A c w', (Builtin.append_ #[25, 25] 25 #[v, .slice (some ⟨w.heap.size, 0, none⟩) 1 1]).run Try.prog (w.alloc (.cells #[.string r.s, .int .i64 r.k, .int .i64 r.n, .slice r.A2 r.m2 r.c2, .slice r.A3 r.m3 r.c3, .slice r.A4 r.m4 r.c4] 32)) = .ok (.slice A (n + 1) c) w' ∧ w'.ownsRow base 32 6 (.slice A (n + 1) c) (n + 1) (flatR (ks ++ [r])) ∧ KeepX v w (.slice A (n + 1) c) w' := by
  obtain ⟨i0, hi, hz0, hz1, hz2⟩ := info_parts infoE
  have hb1 : Below w.heap.size w (w.alloc (.cells #[.string r.s, .int .i64 r.k, .int .i64 r.n, .slice r.A2 r.m2 r.c2, .slice r.A3 r.m3 r.c3, .slice r.A4 r.m4 r.c4] 32)) := (Below.refl _ _).alloc (Nat.le_refl _) _
  have hnw := heap_alloc_new w (.cells #[.string r.s, .int .i64 r.k, .int .i64 r.n, .slice r.A2 r.m2 r.c2, .slice r.A3 r.m3 r.c3, .slice r.A4 r.m4 r.c4] 32)
  have h1 := row_sameN h (fun b hb => hb1.block b (row_ltN h b hb).1)
  obtain ⟨v', w', hr, ho, hg, _, hat⟩ := run_append_own_at (P := Try.prog) _ base 25 25 32 i0 _ 6 104 Try.underlying25 hi hz0 hz1 hz2 rfl (by omega) v n _ h1 ⟨w.heap.size, 0, none⟩ 1 1 (encR r) (encR_len r) (fun j u hj => by
    have e : (⟨w.heap.size, 0, none⟩ : Addr).add j = ⟨w.heap.size, 0 + j, none⟩ := by unfold Addr.add; split <;> simp_all
    rw [e, cell_of_row _ _ _ _ _ (0, 0) hnw, Nat.zero_add]
    rw [← hj]; simp [encR]) (encR_one r) (by simp only [maxLen]; omega) (by omega) (Nat.le_trans hbase hb1.size)
  obtain ⟨A, c, rfl⟩ := own_slice ho
  refine ⟨A, c, w', hr, by rw [flatR_app]; simpa [flatR] using ho, (KeepX.ofBelow hb1).trans ⟨hg.os, hg.tape, hg.output, hg.size, fun k hk hne => hg.block k hk (fun e => hne e.symm), fun b hb => ?_⟩⟩
  rcases hat with h2 | h2
  · exact .inl (by rw [← h2, hb])
  · rw [hb] at h2; injection h2 with h2; exact .inr (by omega)
/-- What is asked of the function: 'Inv i' ahead of entry i; of what was there it changes block Z alone. -/
def KeepOk (fn : Nat) (lb : Array Value) (rs : List Rw) (p : Nat → Bool) (Inv : Nat → World → Prop) (Z : Nat) : Prop :=
  ∀ i r W, rs[i]? = some r → Inv i W → Calls Try.prog fn (#[.agg #[.string r.s, .int .i64 r.k, .int .i64 r.n, .slice r.A2 r.m2 r.c2, .slice r.A3 r.m3 r.c3, .slice r.A4 r.m4 r.c4]] ++ lb) W fun e w' => e = .returned (.bool (p i)) ∧ Inv (i + 1) w' ∧ Only Z W w'
def KepP (rs : List Rw) (p : Nat → Bool) (Inv : Nat → World → Prop) (Z : Nat) (w : World) (e : Ending) (w' : World) : Prop :=
  ∃ A c, e = .returned (.slice A (keepL p 0 rs).length c) ∧ w'.ownsRow w.heap.size 32 6 (.slice A (keepL p 0 rs).length c) (keepL p 0 rs).length (flatR (keepL p 0 rs)) ∧ Inv rs.length w' ∧ Only Z w w'
theorem keepL_app (p : Nat → Bool) : ∀ (a b : List Rw) (i : Nat), keepL p i (a ++ b) = keepL p i a ++ keepL p (i + a.length) b
  | [], b, i => rfl
  | r :: a, b, i => by
    rw [List.cons_append, keepL, keepL, keepL_app p a b (i + 1), List.length_cons, show i + 1 + a.length = i + (a.length + 1) by omega]
    split <;> rfl
set_option maxHeartbeats 4000000 in
theorem keptC (fn : Nat) (lb : Array Value) (rs : List Rw) (p : Nat → Bool) (Inv : Nat → World → Prop) (Z : Nat) (A : Option Addr) (c : Nat) (w : World) (eg : ∀ args w, (callFunc fn args).run Try.prog w = .ok (.enter fn args) w) (hK : KeepOk fn lb rs p Inv Z)
    (hst : ∀ i W W', Inv i W → W.heap.size ≤ W'.heap.size → (∀ b, b < w.heap.size → W'.heap[b]? = W.heap[b]?) → Inv i W') (hI : Inv 0 w) (hA : RowsV w A rs) (hZ : Z < w.heap.size) (hZA : 0 < rs.length → ∀ g o, A = some ⟨g, o, none⟩ → g ≠ Z) (hcap : rs.length ≤ c) (hlen : rs.length ≤ 1000000000) :
    Calls Try.prog 57 #[.slice A rs.length c, .func (.func fn) #[] lb] w (KepP rs p Inv Z w) := by
  obtain ⟨N, hN⟩ : ∃ N, rs.length = N := ⟨_, rfl⟩
  rw [hN] at hlen hcap ⊢
  have HN := Lib.hid hN
  have HK := Lib.hid hK
  have HST := Lib.hid hst
  have HI := Lib.hid hI
  have HA := Lib.hid hA
  have HZA := Lib.hid hZA
  have HZ := Lib.hid hZ
  clear hK hst hI hA hZA hN hZ
  go_enter Try.func57, Try.ntmps57
  go_wp2_with fail
  go_loopw [5, 10] (fun sv iv wr => ∃ (i cW : Nat) (AW : Option Addr), i ≤ N ∧ iv = .int .i64 i ∧ sv = .slice AW (keepL p 0 (rs.take i)).length cW ∧ Hid (wr.ownsRow w.heap.size 32 6 (.slice AW (keepL p 0 (rs.take i)).length cW) (keepL p 0 (rs.take i)).length (flatR (keepL p 0 (rs.take i)))) ∧ Hid (Inv i wr) ∧ Hid (Only Z w wr)) (fun _ iv _ => N - (intOf iv).toNat)
  case atStart => exact ⟨0, 0, none, Nat.zero_le _, rfl, rfl, Lib.hid ⟨rfl, .inl ⟨rfl, rfl⟩⟩, HI, Lib.hid (Only.refl _ _)⟩
  case round =>
    obtain ⟨i, cW, AW, hi, rfl, rfl, HOW, HIN, HON⟩ := hrel
    by_cases hlt : i < N
    · have hlz : (i : Int) < (N : Int) := by omega
      obtain ⟨r, hr⟩ : ∃ r, rs[i]? = some r := ⟨rs[i]'(by rw [HN.out]; exact hlt), List.getElem?_eq_getElem _⟩
      obtain ⟨g, o, eA, hg, hc⟩ := HA.out (by rw [HN.out]; omega)
      have hgZ := HZA.out (by rw [HN.out]; omega) g o eA
      subst eA
      obtain ⟨k0, k1, k2, k3, k4, k5⟩ := hc.six i r hr
      have e := fun j => HON.out.cell (p := ⟨g, j, none⟩) hg hgZ
      have x0 := (e _).trans k0
      have x1 := (e _).trans k1
      have x2 := (e _).trans k2
      have x3 := (e _).trans k3
      have x4 := (e _).trans k4
      have x5 := (e _).trans k5
      have HR := Lib.hid hr
      have HTK : Hid (keepL p 0 (rs.take (i + 1)) = if p i = true then keepL p 0 (rs.take i) ++ [r] else keepL p 0 (rs.take i)) := Lib.hid (by
        have hil : i < rs.length := by rw [HN.out]; exact hlt
        rw [List.take_succ_eq_append_getElem hil, keepL_app, List.length_take_of_le (Nat.le_of_lt hil), Nat.zero_add]
        rw [List.getElem?_eq_getElem hil] at hr
        injection hr with hr
        rw [hr, keepL, keepL]
        split <;> simp)
      have HKL : Hid ((keepL p 0 (rs.take i)).length ≤ i) := Lib.hid (by have := keepL_len p 0 (rs.take i); simp at this; omega)
      obtain ⟨KL, hKL⟩ : ∃ KL, keepL p 0 (rs.take i) = KL := ⟨_, rfl⟩
      rw [hKL] at HOW HTK HKL ⊢
      have hb1 := (Below.refl wr.heap.size wr).alloc (Nat.le_refl _) (.cells #[.string r.s, .int .i64 r.k, .int .i64 r.n, .slice r.A2 r.m2 r.c2, .slice r.A3 r.m3 r.c3, .slice r.A4 r.m4 r.c4] 32)
      have hn1 := heap_alloc_new wr (.cells #[.string r.s, .int .i64 r.k, .int .i64 r.n, .slice r.A2 r.m2 r.c2, .slice r.A3 r.m3 r.c3, .slice r.A4 r.m4 r.c4] 32)
      have hs1 : (wr.alloc (.cells #[.string r.s, .int .i64 r.k, .int .i64 r.n, .slice r.A2 r.m2 r.c2, .slice r.A3 r.m3 r.c3, .slice r.A4 r.m4 r.c4] 32)).heap.size = wr.heap.size + 1 := by simp
      clear hr hc hg hgZ k0 k1 k2 k3 k4 k5 e hKL
      obtain ⟨W1, hW1⟩ : ∃ W1, wr.alloc (.cells #[.string r.s, .int .i64 r.k, .int .i64 r.n, .slice r.A2 r.m2 r.c2, .slice r.A3 r.m3 r.c3, .slice r.A4 r.m4 r.c4] 32) = W1 := ⟨_, rfl⟩
      rw [hW1] at hb1 hn1 hs1
      have HOZ : Hid (Z < wr.heap.size ∧ w.heap.size ≤ wr.heap.size) := Lib.hid ⟨by have := HZ.out; have := HON.out.size; omega, HON.out.size⟩
      have HC := Lib.hid (HK.out i r W1 HR.out (HST.out i wr W1 HIN.out hb1.size (fun b hb => hb1.block b (by have := HON.out.size; omega))))
      have HOW1 := Lib.hid (row_sameN HOW.out (w' := W1) (fun b hb => hb1.block b (row_ltN HOW.out b hb).1))
      have HON1 := Lib.hid (HON.out.trans (Only.of_below hb1 Z))
      have HE1 : Hid (∀ W2, Only Z W1 W2 → W2.cell? ⟨wr.heap.size, 0, none⟩ = some (.string r.s) ∧ W2.cell? ⟨wr.heap.size, 1, none⟩ = some (.int .i64 r.k) ∧ W2.cell? ⟨wr.heap.size, 2, none⟩ = some (.int .i64 r.n) ∧ W2.cell? ⟨wr.heap.size, 3, none⟩ = some (.slice r.A2 r.m2 r.c2) ∧ W2.cell? ⟨wr.heap.size, 4, none⟩ = some (.slice r.A3 r.m3 r.c3) ∧ W2.cell? ⟨wr.heap.size, 5, none⟩ = some (.slice r.A4 r.m4 r.c4)) := Lib.hid (fun W2 h2 => by
        have h3 := (h2.block wr.heap.size (by omega) (by have := HOZ.out.1; omega)).trans hn1
        exact ⟨cell_of_row _ _ 0 _ _ (0, 0) h3, cell_of_row _ _ 1 _ _ (0, 0) h3, cell_of_row _ _ 2 _ _ (0, 0) h3, cell_of_row _ _ 3 _ _ (0, 0) h3, cell_of_row _ _ 4 _ _ (0, 0) h3, cell_of_row _ _ 5 _ _ (0, 0) h3⟩)
      have HS1 : Hid (wr.heap.size ≤ W1.heap.size) := Lib.hid (by omega)
      have HWE := Lib.hid hW1
      clear hb1 hn1 hs1 HOW HON HIN hW1
      go_upto_region 5 with fail
      rw [HWE.out]
      clear x0 x1 x2 x3 x4 x5
      obtain ⟨y0, y1, y2, y3, y4, y5⟩ := HE1.out W1 (Only.refl _ _)
      cases hp : p i with
      | true =>
        rw [hp] at HC HTK
        have hTK := HTK.out
        rw [if_pos rfl] at hTK
        have HTK2 := Lib.hid hTK
        clear hTK HTK hp
        go_wp2_with (first
          | (go_at_fn fn; (with_reducible refine HC.out.mono ?_); (rintro e w2 ⟨rfl, hi2, ho2⟩); have HI2 := Lib.hid hi2; have HO2 := Lib.hid (HON1.out.trans ho2); have HOW2 := Lib.hid (row_sameN HOW1.out (w' := w2) (fun b hb => ho2.block b (row_ltN HOW1.out b hb).1 (by have := (row_ltN HOW1.out b hb).2; have := HZ.out; omega))); (obtain ⟨z0, z1, z2, z3, z4, z5⟩ := HE1.out w2 ho2); have HSZ2 := Lib.hid (Nat.le_trans HS1.out ho2.size); have HAP := Lib.hid (own_lit6 HOW2.out rfl r (by have := HKL.out; omega) (Nat.le_trans HOZ.out.2 (Nat.le_trans HS1.out ho2.size))); clear y0 y1 y2 y3 y4 y5 hi2 ho2 HC)
          | (at_builtin; obtain ⟨A6, c6, w6, hrun, ho6, hk6⟩ := HAP.out; refine Lib.wpList_append_run_sl _ rfl (.tmp 17) (.tmp 19) 25 rfl _ _ rfl rfl hrun ?_; clear hrun; have HO6 := Lib.hid ho6; have HK6 := Lib.hid hk6; clear ho6 hk6))
        go_roundw
        case rel =>
          have hown := fun b hb => row_ltN HOW2.out b hb
          refine ⟨i + 1, c6, A6, by omega, by go_num, by rw [HTK2.out, List.length_append]; rfl, Lib.hid (by rw [HTK2.out, List.length_append]; exact HO6.out), Lib.hid (HST.out (i + 1) w2 w6 HI2.out HK6.out.size (fun b hb => HK6.out.block b (by have := HO2.out.size; omega) (fun e => by have := (hown b e).2; omega))), Lib.hid ⟨HK6.out.os.trans HO2.out.os, HK6.out.tape.trans HO2.out.tape, HK6.out.output.trans HO2.out.output, Nat.le_trans HO2.out.size HK6.out.size, fun b hb hne => (HK6.out.block b (by have := HO2.out.size; omega) (fun e => by have := (hown b e).2; omega)).trans (HO2.out.block b hb hne)⟩⟩
        case measure => simp [intOf]; omega
      | false =>
        rw [hp] at HC HTK
        have hTK := HTK.out
        rw [if_neg (by simp)] at hTK
        have HTK2 := Lib.hid hTK
        clear hTK HTK hp
        go_wp2_with (go_at_fn fn; (with_reducible refine HC.out.mono ?_); (rintro e w2 ⟨rfl, hi2, ho2⟩); have HI2 := Lib.hid hi2; have HO2 := Lib.hid (HON1.out.trans ho2); have HOW2 := Lib.hid (row_sameN HOW1.out (w' := w2) (fun b hb => ho2.block b (row_ltN HOW1.out b hb).1 (by have := (row_ltN HOW1.out b hb).2; have := HZ.out; omega))); clear y0 y1 y2 y3 y4 y5 hi2 ho2 HC)
        go_roundw
        case rel => exact ⟨i + 1, cW, AW, by omega, by go_num, by rw [HTK2.out], by rw [HTK2.out]; exact HOW2, HI2, HO2⟩
        case measure => simp [intOf]; omega
    · obtain rfl : N = i := by omega
      have hT : rs.take N = rs := List.take_of_length_le (by rw [HN.out]; exact Nat.le_refl _)
      rw [hT] at HOW ⊢
      go_wp2_with fail
      go_ret
      exact ⟨AW, cW, rfl, HOW.out, by rw [HN.out]; exact HIN.out, HON.out⟩
/-- The fields that a kind uses. -/
def usesZ (k : Int) : Int := if k = 1 ∨ k = 2 ∨ k = 3 ∨ k = 9 then 1 else if k = 4 ∨ k = 5 then 2 else if k = 6 then 4 else if k = 7 then 8 else if k = 8 then 10 else 0
theorem usesC (k : Int) (w : World) : Calls Try.prog 63 #[.int .i64 k] w fun e w' => e = .returned (.int .i64 (usesZ k)) ∧ w = w' := by
  by_cases h : k = 1 ∨ k = 2 ∨ k = 3 ∨ k = 4 ∨ k = 5 ∨ k = 6 ∨ k = 7 ∨ k = 8 ∨ k = 9
  · rcases h with rfl | rfl | rfl | rfl | rfl | rfl | rfl | rfl | rfl
    all_goals
      go_enter Try.func63, Try.ntmps63
      go_wp2
      go_ret
      exact ⟨rfl, rfl⟩
  · have e : usesZ k = 0 := by unfold usesZ; rw [if_neg (by omega), if_neg (by omega), if_neg (by omega), if_neg (by omega), if_neg (by omega)]
    rw [e]
    have h1 : (k == 1) = false := beq_eq_false_iff_ne.2 (by omega)
    have h2 : (k == 2) = false := beq_eq_false_iff_ne.2 (by omega)
    have h3 : (k == 3) = false := beq_eq_false_iff_ne.2 (by omega)
    have h4 : (k == 4) = false := beq_eq_false_iff_ne.2 (by omega)
    have h5 : (k == 5) = false := beq_eq_false_iff_ne.2 (by omega)
    have h6 : (k == 6) = false := beq_eq_false_iff_ne.2 (by omega)
    have h7 : (k == 7) = false := beq_eq_false_iff_ne.2 (by omega)
    have h8 : (k == 8) = false := beq_eq_false_iff_ne.2 (by omega)
    have h9 : (k == 9) = false := beq_eq_false_iff_ne.2 (by omega)
    clear h e
    go_enter Try.func63, Try.ntmps63
    go_wp2
    go_ret
    exact ⟨rfl, rfl⟩
def nullB (k : Int) : Bool := decide (usesZ k = 0)
theorem nullC (k : Int) (c1 c2 c3 c4 : Value) (w : World) : Calls Try.prog 60 #[.agg #[.int .i64 k, c1, c2, c3, c4]] w fun e w' => e = .returned (.bool (nullB k)) ∧ ∃ q os, w' = grow (w.drewN q) os := by
  go_enter Try.func60, Try.ntmps60
  go_wp2_with (go_at_call 63; refine (usesC _ _).mono ?_; rintro e w' ⟨rfl, rfl⟩)
  go_ret
  exact ⟨ret_bool (by unfold nullB; rfl), (Grw.refl w).alloc _⟩
theorem sameKeyC (s t : ByteArray) (c0 c1 c2 c3 c4 d0 d1 d2 d3 d4 : Value) (w : World) : Calls Try.prog 59 #[.agg #[.string s, c0, c1, c2, c3, c4], .agg #[.string t, d0, d1, d2, d3, d4]] w fun e w' => e = .returned (.bool (decide (s = t))) ∧ ∃ q os, w' = grow (w.drewN q) os := by
  have hb : (s.toList == t.toList) = decide (s = t) := by
    by_cases h : s = t
    · subst h; simp
    · rw [str_ne h, decide_eq_false h]
  have hg : Grw w ((w.alloc (.cells #[.string s, c0, c1, c2, c3, c4] 32)).alloc (.cells #[.string t, d0, d1, d2, d3, d4] 32)) := ((Grw.refl w).alloc _).alloc _
  have HG := Lib.hid hg
  clear hg
  go_enter Try.func59, Try.ntmps59
  go_wp2
  go_ret
  exact ⟨rfl, HG.out⟩
def lastB (rs : List Rw) (i : Nat) : Bool := !(decide (i + 1 < rs.length) && decide ((rs[i]!).s = (rs[i + 1]!).s)) && !(nullB (rs[i]!).k)
/-- What lasts hands to kept: at box Ba the count, at box Bl the row. -/
def LastI (rs : List Rw) (Ba Bl g : Nat) (c : Nat) (i : Nat) (W : World) : Prop := W.heap[Ba]? = some (.cells #[.int .i64 i] 3 (0, 0)) ∧ W.heap[Bl]? = some (.cells #[.slice (some ⟨g, 0, none⟩) rs.length c] 25 (0, 0)) ∧ CellsAt W g 0 (flatR rs) ∧ g < W.heap.size
theorem LastI.grw {rs : List Rw} {Ba Bl g c i : Nat} {W W' : World} (h : LastI rs Ba Bl g c i W) (hg : Grw W W') : LastI rs Ba Bl g c i W' := by
  obtain ⟨h1, h2, h3, h4⟩ := h
  have hb := hg.below
  exact ⟨(hb.block _ (row_lt _ _ _ h1)).trans h1, (hb.block _ (row_lt _ _ _ h2)).trans h2, fun j u hj => (World.cell?_of_block (a := ⟨g, 0 + j, none⟩) (hb.block g h4)).trans (h3 j u hj), Nat.lt_of_lt_of_le h4 hb.size⟩
theorem lastB_go {rs : List Rw} {i : Nat} {r x : Rw} (hr : rs[i]? = some r) (hx : rs[i + 1]? = some x) : lastB rs i = (!(decide (r.s = x.s)) && !(nullB r.k)) := by
  have h1 := (List.getElem?_eq_some_iff.1 hx).1
  unfold lastB
  rw [decide_eq_true h1, Bool.true_and, getElem!_pos rs i (by omega), getElem!_pos rs (i + 1) h1]
  rw [List.getElem?_eq_getElem (by omega)] at hr hx
  injection hr with hr
  injection hx with hx
  rw [hr, hx]
theorem lastB_end {rs : List Rw} {i : Nat} {r : Rw} (hr : rs[i]? = some r) (hn : ¬ i + 1 < rs.length) : lastB rs i = !(nullB r.k) := by
  have h1 := (List.getElem?_eq_some_iff.1 hr).1
  unfold lastB
  rw [decide_eq_false hn, Bool.false_and, getElem!_pos rs i h1]
  rw [List.getElem?_eq_getElem h1] at hr
  injection hr with hr
  rw [hr]; rfl
set_option maxHeartbeats 4000000 in
theorem lastKeep (rs : List Rw) (Ba Bl g c : Nat) (hne : Ba ≠ Bl) (hng : Ba ≠ g) (hcap : rs.length ≤ c) (hlen : rs.length ≤ 1000000000) : KeepOk 58 #[.pointer (some ⟨Ba, 0, none⟩), .pointer (some ⟨Bl, 0, none⟩)] rs (lastB rs) (LastI rs Ba Bl g c) Ba := by
  intro i r W hr hI
  obtain ⟨i1, i2, i3, i4⟩ := hI
  obtain ⟨N, hN⟩ : ∃ N, rs.length = N := ⟨_, rfl⟩
  have hi := (List.getElem?_eq_some_iff.1 hr).1
  have hBa := row_lt _ _ _ i1
  have hBl := row_lt _ _ _ i2
  show Calls Try.prog 58 #[.agg #[.string r.s, .int .i64 r.k, .int .i64 r.n, .slice r.A2 r.m2 r.c2, .slice r.A3 r.m3 r.c3, .slice r.A4 r.m4 r.c4], .pointer (some ⟨Ba, 0, none⟩), .pointer (some ⟨Bl, 0, none⟩)] W _
  have hb1 := (Below.refl W.heap.size W).alloc (Nat.le_refl _) (.cells #[.string r.s, .int .i64 r.k, .int .i64 r.n, .slice r.A2 r.m2 r.c2, .slice r.A3 r.m3 r.c3, .slice r.A4 r.m4 r.c4] 32)
  have hn1 := heap_alloc_new W (.cells #[.string r.s, .int .i64 r.k, .int .i64 r.n, .slice r.A2 r.m2 r.c2, .slice r.A3 r.m3 r.c3, .slice r.A4 r.m4 r.c4] 32)
  have hs1 : (W.alloc (.cells #[.string r.s, .int .i64 r.k, .int .i64 r.n, .slice r.A2 r.m2 r.c2, .slice r.A3 r.m3 r.c3, .slice r.A4 r.m4 r.c4] 32)).heap.size = W.heap.size + 1 := by simp
  obtain ⟨W1, hW1⟩ : ∃ W1, W.alloc (.cells #[.string r.s, .int .i64 r.k, .int .i64 r.n, .slice r.A2 r.m2 r.c2, .slice r.A3 r.m3 r.c3, .slice r.A4 r.m4 r.c4] 32) = W1 := ⟨_, rfl⟩
  rw [hW1] at hb1 hn1 hs1
  have a1 := (hb1.block Ba hBa).trans i1
  have a2 := (hb1.block Bl hBl).trans i2
  -- behind the count's store
  have hst : Only Ba W1 (W1.setCell ⟨Ba, 0, none⟩ (.int .i64 ((i : Int) + 1))) := (Only.refl Ba W1).set_ 0 _
  have b1 : (W1.setCell ⟨Ba, 0, none⟩ (.int .i64 ((i : Int) + 1))).heap[Ba]? = some (.cells #[.int .i64 ((i : Int) + 1)] 3 (0, 0)) := heap_set W1 Ba 0 _ [.int .i64 (i : Int)] _ a1
  have q0 : W1.cell? ⟨Ba, 0, none⟩ = some (.int .i64 (i : Int)) := by rw [cell_of_row _ _ 0 _ _ (0, 0) a1]; rfl
  have q1 : W1.frozen? ⟨Ba, 0, none⟩ = false := by simp [World.frozen?, a1]
  obtain ⟨W2, hW2⟩ : ∃ W2, W1.setCell ⟨Ba, 0, none⟩ (.int .i64 ((i : Int) + 1)) = W2 := ⟨_, rfl⟩
  rw [hW2] at hst b1
  have b2 := (hst.block Bl (by omega) (fun e => hne e.symm)).trans a2
  have b3 := (hst.block W.heap.size (by omega) (by omega)).trans hn1
  have b4 : CellsAt W2 g 0 (flatR rs) := fun j u hj => ((World.cell?_of_block (a := ⟨g, 0 + j, none⟩) (hst.block g (by omega) (fun e => hng e.symm))).trans (World.cell?_of_block (a := ⟨g, 0 + j, none⟩) (hb1.block g i4))).trans (i3 j u hj)
  have hs2 : W.heap.size + 1 ≤ W2.heap.size := by have := hst.size; omega
  have hO2 : Only Ba W W2 := (Only.of_below hb1 Ba).trans hst
  -- what is found behind draws and new blocks
  have HKY : Hid (∀ n os, (grow (W2.drewN n) os).cell? ⟨Ba, 0, none⟩ = some (.int .i64 ((i : Int) + 1)) ∧ (grow (W2.drewN n) os).cell? ⟨Bl, 0, none⟩ = some (.slice (some ⟨g, 0, none⟩) rs.length c) ∧
      ((grow (W2.drewN n) os).cell? ⟨W.heap.size, 0, none⟩ = some (.string r.s) ∧ (grow (W2.drewN n) os).cell? ⟨W.heap.size, 1, none⟩ = some (.int .i64 r.k) ∧ (grow (W2.drewN n) os).cell? ⟨W.heap.size, 2, none⟩ = some (.int .i64 r.n) ∧ (grow (W2.drewN n) os).cell? ⟨W.heap.size, 3, none⟩ = some (.slice r.A2 r.m2 r.c2) ∧ (grow (W2.drewN n) os).cell? ⟨W.heap.size, 4, none⟩ = some (.slice r.A3 r.m3 r.c3) ∧ (grow (W2.drewN n) os).cell? ⟨W.heap.size, 5, none⟩ = some (.slice r.A4 r.m4 r.c4)) ∧
      CellsAt (grow (W2.drewN n) os) g 0 (flatR rs) ∧ (grow (W2.drewN n) os).heap[Ba]? = some (.cells #[.int .i64 ((i : Int) + 1)] 3 (0, 0)) ∧ (grow (W2.drewN n) os).heap[Bl]? = some (.cells #[.slice (some ⟨g, 0, none⟩) rs.length c] 25 (0, 0)) ∧ Only Ba W (grow (W2.drewN n) os)) := Lib.hid (fun n os => by
    have hgr : Below W2.heap.size W2 (grow (W2.drewN n) os) := Grw.below ⟨n, os, rfl⟩
    have k1 := (hgr.block Ba (row_lt _ _ _ b1)).trans b1
    have k2 := (hgr.block Bl (row_lt _ _ _ b2)).trans b2
    have k3 := (hgr.block W.heap.size (by omega)).trans b3
    exact ⟨cell_of_row _ _ 0 _ _ (0, 0) k1, cell_of_row _ _ 0 _ _ (0, 0) k2, ⟨cell_of_row _ _ 0 _ _ (0, 0) k3, cell_of_row _ _ 1 _ _ (0, 0) k3, cell_of_row _ _ 2 _ _ (0, 0) k3, cell_of_row _ _ 3 _ _ (0, 0) k3, cell_of_row _ _ 4 _ _ (0, 0) k3, cell_of_row _ _ 5 _ _ (0, 0) k3⟩, fun j u hj => (World.cell?_of_block (a := ⟨g, 0 + j, none⟩) (hgr.block g (by omega))).trans (b4 j u hj), k1, k2, hO2.trans (Only.of_below hgr Ba)⟩)
  have HG2 : Hid (g < W2.heap.size) := Lib.hid (by omega)
  have HRR := Lib.hid hr
  have HNN := Lib.hid hN
  have HW2 := Lib.hid hW2
  have HW1 := Lib.hid hW1
  have hiN : i < N := by omega
  rw [hN] at hcap hlen HKY
  clear b1 b2 b3 b4 hst hO2 i1 i2 i3 hb1 hn1 a1 a2 hW2 hW1 hr hi
  go_enter Try.func58, Try.ntmps58
  go_upto_region 1 with fail
  rw [HW1.out]
  go_upto_region 2 with fail
  rw [HW2.out]
  have mixed : Try.prog.follows .mixedOrders = true := by kernel_rfl
  clear q0 q1
  have key := HKY.out
  have k0 := fun n os => (key n os).1
  have r0 := fun n os => (key n os).2.2.1.1
  have r1 := fun n os => (key n os).2.2.1.2.1
  have r2 := fun n os => (key n os).2.2.1.2.2.1
  have r3 := fun n os => (key n os).2.2.1.2.2.2.1
  have r4 := fun n os => (key n os).2.2.1.2.2.2.2.1
  have r5 := fun n os => (key n os).2.2.1.2.2.2.2.2
  by_cases hlt : i + 1 < N
  · have hlz : decide ((i : Int) + 1 < (N : Int)) = true := decide_eq_true (by omega)
    have hlz2 : (i : Int) + 1 < (N : Int) := by omega
    have p0 : (0 : Int) ≤ (i : Int) + 1 := by omega
    have e0 : ((i : Int) + 1).toNat = i + 1 := by omega
    obtain ⟨x, hx⟩ : ∃ x, rs[i + 1]? = some x := ⟨rs[i + 1]'(by rw [HNN.out]; exact hlt), List.getElem?_eq_getElem _⟩
    have HXX := Lib.hid hx
    have six := fun n os => (key n os).2.2.2.1.six (i + 1) x hx
    obtain ⟨oz, hoz⟩ : ∃ oz : Nat, oz = 0 := ⟨0, rfl⟩
    rw [← hoz] at six
    have k1 : ∀ n os, (grow (W2.drewN n) os).cell? ⟨Bl, 0, none⟩ = some (.slice (some ⟨g, oz, none⟩) N c) := fun n os => by rw [hoz]; exact (key n os).2.1
    have x0 := fun n os => (six n os).1
    have x1 := fun n os => (six n os).2.1
    have x2 := fun n os => (six n os).2.2.1
    have x3 := fun n os => (six n os).2.2.2.1
    have x4 := fun n os => (six n os).2.2.2.2.1
    have x5 := fun n os => (six n os).2.2.2.2.2
    have HLB := Lib.hid (lastB_go HRR.out hx)
    clear six hx hoz key
    go_quiet_grown (first | (go_at_call 59; refine Calls.grown_of (sameKeyC _ _ _ _ _ _ _ _ _ _ _ _ _)))
    have hgr : Grw W2 (grow (W2.drewN nq) osq) := ⟨nq, osq, rfl⟩
    obtain ⟨m0, _, ⟨s0, s1, s2, s3, s4, s5⟩, mC, mA, mL, mO⟩ := HKY.out nq osq
    have HF := Lib.hid (show LastI rs Ba Bl g c (i + 1) (grow (W2.drewN nq) osq) ∧ Only Ba W (grow (W2.drewN nq) osq) from ⟨⟨mA, by rw [HNN.out]; exact mL, mC, by rw [size_grow]; exact Nat.lt_of_lt_of_le HG2.out (Nat.le_add_right _ _)⟩, mO⟩)
    clear k0 k1 r0 r1 r2 r3 r4 r5 x0 x1 x2 x3 x4 x5 hgr m0 mC mA mL mO
    generalize grow (W2.drewN nq) osq = W3 at *
    clear nq osq
    cases heq : decide (r.s = x.s) with
    | true =>
      rw [heq] at HLB
      go_wp2_with fail
      go_ret
      exact ⟨by rw [HLB.out]; rfl, HF.out⟩
    | false =>
      rw [heq] at HLB
      go_wp2_with (go_at_call 60; (with_reducible refine (nullC _ _ _ _ _ _).mono ?_); (rintro e w4 ⟨rfl, hgw⟩); have HGW := Lib.hid (show Grw W3 w4 from hgw); clear hgw)
      go_ret
      exact ⟨by rw [HLB.out]; rfl, LastI.grw HF.out.1 HGW.out, HF.out.2.trans (Only.of_below HGW.out.below Ba)⟩
  · have hlz : decide ((i : Int) + 1 < (N : Int)) = false := decide_eq_false (by omega)
    have hlz2 : ¬ (i : Int) + 1 < (N : Int) := by omega
    have k1 := fun n os => (key n os).2.1
    have HLB := Lib.hid (lastB_end HRR.out (by rw [HNN.out]; exact hlt))
    clear key
    go_quiet_grown (fail)
    obtain ⟨m0, _, ⟨s0, s1, s2, s3, s4, s5⟩, mC, mA, mL, mO⟩ := HKY.out nq osq
    have HF := Lib.hid (show LastI rs Ba Bl g c (i + 1) (grow (W2.drewN nq) osq) ∧ Only Ba W (grow (W2.drewN nq) osq) from ⟨⟨mA, by rw [HNN.out]; exact mL, mC, by rw [size_grow]; exact Nat.lt_of_lt_of_le HG2.out (Nat.le_add_right _ _)⟩, mO⟩)
    clear k0 k1 r0 r1 r2 r3 r4 r5 m0 mC mA mL mO
    generalize grow (W2.drewN nq) osq = W3 at *
    clear nq osq
    go_wp2_with (go_at_call 60; (with_reducible refine (nullC _ _ _ _ _ _).mono ?_); (rintro e w4 ⟨rfl, hgw⟩); have HGW := Lib.hid (show Grw W3 w4 from hgw); clear hgw)
    go_ret
    exact ⟨by rw [HLB.out]; rfl, LastI.grw HF.out.1 HGW.out, HF.out.2.trans (Only.of_below HGW.out.below Ba)⟩
end

section
open Go.RowKit Go.Sort
set_option linter.unusedVariables false
set_option maxRecDepth 100000
abbrev KV := ByteArray × Ob
def Ens.toL : Ens → List KV
  | .nil => []
  | .cons s x xs => (s, x) :: xs.toL
def Ens.ofL : List KV → Ens
  | [] => .nil
  | p :: ps => .cons p.1 p.2 (Ens.ofL ps)
theorem Ens.of_to : ∀ l : Ens, Ens.ofL l.toL = l
  | .nil => rfl
  | .cons s x xs => by rw [Ens.toL, Ens.ofL, Ens.of_to xs]
theorem Ens.toL_len : ∀ l : Ens, l.toL.length = l.len
  | .nil => rfl
  | .cons s x xs => by rw [Ens.toL, List.length_cons, Ens.toL_len xs, Ens.len]
/-- Keys that rise, each once. -/
def SS (l : List KV) : Prop := l.Pairwise (fun a b => ltS a.1 b.1 = true)
/-- The value of a key. -/
def lk : List KV → ByteArray → Option Ob
  | [], _ => none
  | p :: ps, t => if p.1 = t then some p.2 else lk ps t
theorem lk_none : ∀ (l : List KV) (t : ByteArray), (∀ p ∈ l, p.1 ≠ t) → lk l t = none
  | [], t, _ => rfl
  | p :: ps, t, h => by rw [lk, if_neg (h p (by simp)), lk_none ps t (fun q hq => h q (by simp [hq]))]
theorem SS.cons {p : KV} {l : List KV} : SS (p :: l) ↔ (∀ q ∈ l, ltS p.1 q.1 = true) ∧ SS l := by unfold SS; rw [List.pairwise_cons]
theorem lt_ne {s t : ByteArray} (h : ltS s t = true) : s ≠ t := fun e => by rw [e, ltS_irrefl] at h; cases h
theorem ss_ext : ∀ (a b : List KV), SS a → SS b → (∀ t, lk a t = lk b t) → a = b
  | [], [], _, _, _ => rfl
  | [], q :: b, _, _, h => by have := h q.1; rw [lk, lk, if_pos rfl] at this; cases this
  | p :: a, [], _, _, h => by have := h p.1; rw [lk, lk, if_pos rfl] at this; cases this
  | p :: a, q :: b, ha, hb, h => by
    rw [SS.cons] at ha hb
    have hpq : p.1 = q.1 := by
      cases h1 : ltS p.1 q.1 with
      | true =>
        have := h p.1
        rw [lk, if_pos rfl, lk_none (q :: b) p.1 (fun r hr => by
          rcases List.mem_cons.1 hr with rfl | hr
          · exact (lt_ne h1).symm
          · exact (lt_ne (ltS_trans h1 (hb.1 r hr))).symm)] at this
        cases this
      | false =>
        cases h2 : ltS q.1 p.1 with
        | true =>
          have := h q.1
          rw [lk_none (p :: a) q.1 (fun r hr => by
            rcases List.mem_cons.1 hr with rfl | hr
            · exact (lt_ne h2).symm
            · exact (lt_ne (ltS_trans h2 (ha.1 r hr))).symm), lk, if_pos rfl] at this
          cases this
        | false => exact ltS_eq_of h1 h2
    have hx : p.2 = q.2 := by
      have := h p.1
      rw [lk, if_pos rfl, lk, if_pos hpq.symm] at this
      injection this
    have e : p = q := Prod.ext hpq hx
    subst e
    congr 1
    refine ss_ext a b ha.2 hb.2 (fun t => ?_)
    by_cases ht : p.1 = t
    · subst ht
      rw [lk_none a _ (fun r hr => (lt_ne (ha.1 r hr)).symm), lk_none b _ (fun r hr => (lt_ne (hb.1 r hr)).symm)]
    · have := h t
      rw [lk, lk, if_neg ht, if_neg ht] at this
      exact this
theorem leS_lt {s t : ByteArray} : leS s t = true ↔ ltS s t = true ∨ s = t := by
  unfold leS ltS
  rw [Bool.or_eq_true, beq_iff_eq]
  constructor
  · rintro (h | h)
    · exact .inl h
    · exact .inr (toListB_inj h)
  · rintro (h | h)
    · exact .inl h
    · exact .inr (by rw [h])
theorem leS_no {s t : ByteArray} (h : ¬ leS s t = true) : ltS t s = true := by
  cases h1 : ltS t s with
  | true => rfl
  | false =>
    exfalso
    apply h
    rw [leS_lt]
    cases h2 : ltS s t with
    | true => exact .inl rfl
    | false => exact .inr (ltS_eq_of h2 h1)
theorem with_true (s : ByteArray) (x : Ob) : ∀ d : Ens, (withE s x d true).toL = d.toL.filter (fun p => decide (p.1 ≠ s))
  | .nil => by rw [withE, if_pos rfl]; rfl
  | .cons t y ys => by
    rw [withE, if_neg (by simp), Ens.toL, List.filter_cons]
    by_cases h : t = s
    · rw [if_pos h, if_neg (by simp [h]), with_true s x ys]
    · rw [if_neg h, if_pos (by simp [h]), Ens.toL, with_true s x ys]
theorem with_false (s : ByteArray) (x : Ob) : ∀ d : Ens, SS d.toL → (withE s x d false).toL = d.toL.filter (fun p => ltS p.1 s) ++ (s, x) :: d.toL.filter (fun p => ltS s p.1)
  | .nil, _ => by rw [withE, if_neg (by simp)]; rfl
  | .cons t y ys, h => by
    rw [Ens.toL, SS.cons] at h
    rw [withE]
    by_cases hle : leS s t = true
    · rw [if_pos ⟨rfl, hle⟩]
      have hys : ∀ p ∈ ys.toL, ltS s p.1 = true := fun p hp => by
        rcases leS_lt.1 hle with h1 | h1
        · exact ltS_trans h1 (h.1 p hp)
        · rw [h1]; exact h.1 p hp
      have f1 : ys.toL.filter (fun p => ltS p.1 s) = [] := by
        rw [List.filter_eq_nil_iff]; intro p hp; rw [ltS_asymm (hys p hp)]; simp
      have f2 : ys.toL.filter (fun p => ltS s p.1) = ys.toL := by
        rw [List.filter_eq_self]; exact hys
      have f3 : ys.toL.filter (fun p => decide (p.1 ≠ s)) = ys.toL := by
        rw [List.filter_eq_self]; intro p hp; simp; exact (lt_ne (hys p hp)).symm
      by_cases hts : t = s
      · subst hts
        rw [if_pos rfl, Ens.toL, with_true, Ens.toL, List.filter_cons, List.filter_cons, if_neg (by rw [ltS_irrefl]; simp), if_neg (by rw [ltS_irrefl]; simp), f1, f2, f3]; rfl
      · have hlt : ltS s t = true := by
          rcases leS_lt.1 hle with h1 | h1
          · exact h1
          · exact absurd h1.symm hts
        rw [if_neg hts, Ens.toL, Ens.toL, with_true, Ens.toL, List.filter_cons, List.filter_cons, if_neg (by rw [ltS_asymm hlt]; simp), if_pos hlt, f1, f2, f3]; rfl
    · have hlt := leS_no hle
      rw [if_neg (by simp [hle]), if_neg (lt_ne hlt), Ens.toL, with_false s x ys h.2, Ens.toL, List.filter_cons, List.filter_cons, if_pos hlt, if_neg (by rw [ltS_asymm hlt]; simp)]; rfl
theorem lk_app : ∀ (a b : List KV) (t : ByteArray), lk (a ++ b) t = (lk a t).or (lk b t)
  | [], b, t => rfl
  | p :: a, b, t => by
    rw [List.cons_append, lk, lk, lk_app a b t]
    split <;> rfl
theorem lk_filter (f : ByteArray → Bool) : ∀ (l : List KV) (t : ByteArray), lk (l.filter (fun p => f p.1)) t = if f t = true then lk l t else none
  | [], t => by simp [lk]
  | p :: l, t => by
    rw [List.filter_cons]
    by_cases h : f p.1 = true
    · rw [if_pos h, lk, lk_filter f l t, lk]
      by_cases h2 : p.1 = t
      · subst h2; rw [if_pos rfl, if_pos h, if_pos rfl]
      · rw [if_neg h2, if_neg h2]
    · rw [if_neg h, lk_filter f l t, lk]
      by_cases h2 : p.1 = t
      · subst h2; rw [if_neg h, if_neg h]
      · rw [if_neg h2]
theorem SS.filter {l : List KV} (h : SS l) (f : KV → Bool) : SS (l.filter f) := List.Pairwise.filter f h
theorem with_ss (s : ByteArray) (x : Ob) (d : Ens) (p : Bool) (h : SS d.toL) : SS (withE s x d p).toL := by
  cases p with
  | true => rw [with_true]; exact h.filter _
  | false =>
    rw [with_false s x d h]
    unfold SS
    rw [List.pairwise_append, List.pairwise_cons]
    refine ⟨h.filter _, ⟨fun q hq => (List.mem_filter.1 hq).2, h.filter _⟩, fun q hq r hr => ?_⟩
    have h1 := (List.mem_filter.1 hq).2
    rcases List.mem_cons.1 hr with rfl | hr
    · exact h1
    · exact ltS_trans h1 (List.mem_filter.1 hr).2
theorem with_lk (s : ByteArray) (x : Ob) (d : Ens) (p : Bool) (h : SS d.toL) (t : ByteArray) : lk (withE s x d p).toL t = if s = t then (if p = true then none else some x) else lk d.toL t := by
  cases p with
  | true =>
    rw [with_true, show (fun p : KV => decide (p.1 ≠ s)) = (fun p : KV => (fun k => decide (k ≠ s)) p.1) from rfl, lk_filter (fun k => decide (k ≠ s))]
    by_cases h1 : s = t
    · subst h1; simp
    · rw [if_neg h1, if_pos (by simpa using fun e => h1 e.symm)]
  | false =>
    rw [with_false s x d h, lk_app, lk, show (fun p : KV => ltS p.1 s) = (fun p : KV => (fun k => ltS k s) p.1) from rfl, lk_filter (fun k => ltS k s), show (fun p : KV => ltS s p.1) = (fun p : KV => (fun k => ltS s k) p.1) from rfl, lk_filter (fun k => ltS s k)]
    by_cases h1 : s = t
    · subst h1; simp [ltS_irrefl]
    · rw [if_neg h1, if_neg h1]
      cases h2 : ltS t s with
      | true => rw [ltS_asymm h2]; cases lk d.toL t <;> simp
      | false =>
        cases h3 : ltS s t with
        | true => simp
        | false => exact absurd (ltS_eq_of h3 h2) h1
/-- What the last entry of a key says. -/
def lastV (l : List KV) (t : ByteArray) : Option KV := (l.filter (fun p => decide (p.1 = t))).getLast?
theorem dict_ss : ∀ (l acc : Ens), SS acc.toL → SS (dictF l acc).toL
  | .nil, acc, h => h
  | .cons s x xs, acc, h => by rw [dictF]; exact dict_ss xs _ (with_ss s x acc _ h)
theorem lastV_cons (p : KV) (l : List KV) (t : ByteArray) : lastV (p :: l) t = if p.1 = t then some ((lastV l t).getD p) else lastV l t := by
  unfold lastV
  rw [List.filter_cons]
  by_cases h : p.1 = t
  · rw [if_pos (by simpa using h), if_pos h, List.getLast?_cons]
  · rw [if_neg (by simpa using h), if_neg h]
theorem dict_lk : ∀ (l acc : Ens) (t : ByteArray), SS acc.toL → lk (dictF l acc).toL t = match lastV l.toL t with
    | none => lk acc.toL t
    | some p => if p.2.kind = 0 then none else some p.2
  | .nil, acc, t, h => rfl
  | .cons s x xs, acc, t, h => by
    rw [dictF, dict_lk xs _ t (with_ss s x acc _ h), Ens.toL, lastV_cons, with_lk s x acc _ h]
    by_cases h1 : s = t
    · subst h1
      rw [if_pos rfl]
      cases lastV xs.toL s with
      | none => simp
      | some p => simp
    · rw [if_neg h1]; simp only [h1, if_false]
/-- The project's: a row, and those behind it. -/
def lastsR : List Rw → List Rw
  | [] => []
  | [r] => if nullB r.k = true then [] else [r]
  | r :: q :: rs => if r.s = q.s ∨ nullB r.k = true then lastsR (q :: rs) else r :: lastsR (q :: rs)
theorem keep_lasts (rs : List Rw) : ∀ (n i : Nat), rs.length - i = n → keepL (lastB rs) i (rs.drop i) = lastsR (rs.drop i)
  | 0, i, h => by
    rw [List.drop_eq_nil_of_le (by omega)]; rfl
  | n + 1, i, h => by
    have hi : i < rs.length := by omega
    have IH := keep_lasts rs n (i + 1) (by omega)
    rw [List.drop_eq_getElem_cons hi, keepL, IH]
    by_cases h2 : i + 1 < rs.length
    · rw [List.drop_eq_getElem_cons h2, lastsR, lastB_go (List.getElem?_eq_getElem hi) (List.getElem?_eq_getElem h2)]
      cases h9 : nullB (rs[i]'hi).k <;> by_cases he : (rs[i]'hi).s = (rs[i + 1]'h2).s <;> simp [he]
    · rw [List.drop_eq_nil_of_le (by omega), lastsR, lastB_end (List.getElem?_eq_getElem hi) h2]
      cases h9 : nullB (rs[i]'hi).k <;> simp [lastsR, h9]
abbrev prR (r : Rw) : KV := (r.s, r.x)
theorem lastsR_mem : ∀ (rs : List Rw) (r : Rw), r ∈ lastsR rs → r ∈ rs
  | [], r, h => h
  | [q], r, h => by
    rw [lastsR] at h
    split at h
    · cases h
    · exact h
  | q :: p :: rs, r, h => by
    rw [lastsR] at h
    split at h
    · exact List.mem_cons_of_mem _ (lastsR_mem (p :: rs) r h)
    · rcases List.mem_cons.1 h with rfl | h
      · simp
      · exact List.mem_cons_of_mem _ (lastsR_mem (p :: rs) r h)
theorem lastsR_ss : ∀ (rs : List Rw), Srt keyR rs → SS ((lastsR rs).map prR)
  | [], _ => List.Pairwise.nil
  | [q], _ => by
    rw [lastsR]
    split
    · exact List.Pairwise.nil
    · exact List.pairwise_singleton _ _
  | q :: p :: rs, h => by
    rw [Srt.cons] at h
    have IH := lastsR_ss (p :: rs) h.2
    rw [lastsR]
    split
    · exact IH
    · rename_i hn
      rw [List.map_cons, SS.cons]
      refine ⟨fun r hr => ?_, IH⟩
      obtain ⟨r', hr', rfl⟩ := List.mem_map.1 hr
      have hm := lastsR_mem (p :: rs) r' hr'
      have hqp : ltS q.s p.s = true := by
        cases h1 : ltS q.s p.s with
        | true => rfl
        | false => exact absurd (.inl (ltS_eq_of h1 (h.1 p (by simp)))) hn
      rcases List.mem_cons.1 hm with rfl | hm
      · exact hqp
      · exact ltS_lt_le hqp ((Srt.cons.1 h.2).1 r' hm)
theorem lastsR_lk : ∀ (rs : List Rw), Srt keyR rs → ∀ t, lk ((lastsR rs).map prR) t = match (rs.filter (fun r => decide (r.s = t))).getLast? with
    | none => none
    | some r => if nullB r.k = true then none else some r.x
  | [], _, t => rfl
  | [q], _, t => by
    rw [lastsR]
    by_cases h : q.s = t
    · by_cases h2 : nullB q.k = true
      · simp [h, h2, lk]
      · simp [h, h2, lk]
    · by_cases h2 : nullB q.k = true
      · simp [h, h2, lk]
      · simp [h, h2, lk]
  | q :: p :: rs, h, t => by
    have hs := h
    rw [Srt.cons] at h
    have IH := lastsR_lk (p :: rs) h.2 t
    have fy : q.s = t → (q :: p :: rs).filter (fun r => decide (r.s = t)) = q :: (p :: rs).filter (fun r => decide (r.s = t)) := fun hq => by
      rw [List.filter_cons, if_pos (by simpa using hq)]
    have fn : ¬ q.s = t → (q :: p :: rs).filter (fun r => decide (r.s = t)) = (p :: rs).filter (fun r => decide (r.s = t)) := fun hq => by
      rw [List.filter_cons, if_neg (by simpa using hq)]
    by_cases hqp : q.s = p.s
    · rw [lastsR, if_pos (.inl hqp), IH]
      by_cases hq : q.s = t
      · rw [fy hq, List.getLast?_cons]
        have : (p :: rs).filter (fun r => decide (r.s = t)) ≠ [] := fun e => by
          have := List.filter_eq_nil_iff.1 e p (by simp)
          exact this (by simpa using hqp.symm.trans hq)
        cases h3 : ((p :: rs).filter (fun r => decide (r.s = t))).getLast? with
        | none => exact absurd (List.getLast?_eq_none_iff.1 h3) this
        | some r => simp
      · rw [fn hq]
    · have hlt : ltS q.s p.s = true := by
        cases h1 : ltS q.s p.s with
        | true => rfl
        | false => exact absurd (ltS_eq_of h1 (h.1 p (by simp))) hqp
      have hall : ∀ r ∈ p :: rs, ltS q.s r.s = true := fun r hr => by
        rcases List.mem_cons.1 hr with rfl | hr
        · exact hlt
        · exact ltS_lt_le hlt ((Srt.cons.1 h.2).1 r hr)
      by_cases hq : q.s = t
      · subst hq
        have hnil : (p :: rs).filter (fun r => decide (r.s = q.s)) = [] := by
          rw [List.filter_eq_nil_iff]; intro r hr; simp; exact (lt_ne (hall r hr)).symm
        rw [fy rfl, hnil, List.getLast?_singleton]
        rw [hnil] at IH
        rw [lastsR]
        by_cases h2 : nullB q.k = true
        · rw [if_pos (.inr h2), IH]; simp [h2]
        · rw [if_neg (fun e => e.elim hqp h2), List.map_cons, lk, if_pos rfl]; simp [h2]
      · rw [fn hq, lastsR]
        by_cases h2 : nullB q.k = true
        · rw [if_pos (.inr h2), IH]
        · rw [if_neg (fun e => e.elim hqp h2), List.map_cons, lk, if_neg hq, IH]
theorem nullB_kind {k : Int} (h : 0 ≤ k ∧ k ≤ 9) : nullB k = true ↔ k = 0 := by
  unfold nullB
  rw [decide_eq_true_eq]
  obtain ⟨h0, h9⟩ := h
  have : k = 0 ∨ k = 1 ∨ k = 2 ∨ k = 3 ∨ k = 4 ∨ k = 5 ∨ k = 6 ∨ k = 7 ∨ k = 8 ∨ k = 9 := by omega
  rcases this with rfl | rfl | rfl | rfl | rfl | rfl | rfl | rfl | rfl | rfl <;> simp [usesZ]
theorem filter_map_pr (t : ByteArray) : ∀ rs : List Rw, (rs.map prR).filter (fun p => decide (p.1 = t)) = (rs.filter (fun r => decide (r.s = t))).map prR
  | [] => rfl
  | r :: rs => by
    rw [List.map_cons, List.filter_cons, List.filter_cons, filter_map_pr t rs]
    by_cases h : r.s = t
    · rw [if_pos (by simpa using h), if_pos (by simpa using h)]; rfl
    · rw [if_neg (by simpa using h), if_neg (by simpa using h)]
/-- What the project makes of entries is what the document makes of them. -/
theorem lasts_dict (l : Ens) (rs rs' : List Rw) (hl : rs.map prR = l.toL) (hk : ∀ r ∈ rs, r.k = r.x.kind ∧ 0 ≤ r.k ∧ r.k ≤ 9) (hS : Srt keyR rs') (hT : Stb keyR rs rs') : (keepL (lastB rs') 0 rs').map prR = (dictF l .nil).toL := by
  have h0 := keep_lasts rs' _ 0 rfl
  rw [List.drop_zero] at h0
  rw [h0]
  refine ss_ext _ _ (lastsR_ss rs' hS) (dict_ss l .nil List.Pairwise.nil) (fun t => ?_)
  rw [lastsR_lk rs' hS t, dict_lk l .nil t List.Pairwise.nil, ← hl]
  unfold lastV
  rw [filter_map_pr, List.getLast?_map, hT t]
  cases h : (rs.filter (fun a => decide (keyR a = t))).getLast? with
  | none => rfl
  | some r =>
    have hm : r ∈ rs := (List.mem_filter.1 (List.mem_of_getLast? h)).1
    obtain ⟨h1, h2, h3⟩ := hk r hm
    have := nullB_kind ⟨h2, h3⟩
    simp only [Option.map_some]
    by_cases h4 : r.k = 0
    · rw [if_pos (this.2 h4), if_pos (by rw [← h1]; exact h4)]
    · rw [if_neg (fun e => h4 (this.1 e)), if_neg (by rw [← h1]; exact h4)]
/-- A row reads as its object. -/
abbrev RwR (w : World) (S : Nat → Prop) (r : Rw) : Prop := ObR w S r.x (.int .i64 r.k) (.int .i64 r.n) (.slice r.A2 r.m2 r.c2) (.slice r.A3 r.m3 r.c3) (.slice r.A4 r.m4 r.c4)
theorem ens_rows {w : World} {S : Nat → Prop} : ∀ (l : Ens) (g o : Nat), EnsR w S l g o → ∃ rs : List Rw, rs.map prR = l.toL ∧ CellsAt w g o (flatR rs) ∧ ∀ r ∈ rs, RwR w S r
  | .nil, g, o, _ => ⟨[], rfl, (fun j u hj => by simp [flatR] at hj), (fun r hr => by cases hr)⟩
  | .cons s x xs, g, o, h => by
    unfold EnsR at h
    obtain ⟨⟨c0, c1, c2, c3, c4, ks, k0, k1, k2, k3, k4, hx⟩, hr⟩ := h
    obtain ⟨rs, h1, h2, h3⟩ := ens_rows xs g (o + 6) hr
    obtain ⟨k, n, A2, m2, d2, A3, m3, d3, A4, m4, d4, rfl, rfl, rfl, rfl, rfl⟩ := hx.form
    refine ⟨⟨s, x, k, n, A2, m2, d2, A3, m3, d3, A4, m4, d4⟩ :: rs, by rw [List.map_cons, h1, Ens.toL], fun j u hj => ?_, fun r hr => ?_⟩
    · rw [flatR_cons] at hj
      match j, hj with
      | 0, hj => simp [encR] at hj; subst hj; exact ks
      | 1, hj => simp [encR] at hj; subst hj; exact k0
      | 2, hj => simp [encR] at hj; subst hj; exact k1
      | 3, hj => simp [encR] at hj; subst hj; exact k2
      | 4, hj => simp [encR] at hj; subst hj; exact k3
      | 5, hj => simp [encR] at hj; subst hj; exact k4
      | j + 6, hj =>
        have := h2 j u (by simpa [encR] using hj)
        rw [show o + (j + 6) = o + 6 + j by omega]
        exact this
    · rcases List.mem_cons.1 hr with rfl | hr
      · exact hx
      · exact h3 r hr
theorem rows_ens {w : World} {S : Nat → Prop} : ∀ (rs : List Rw) (g o : Nat), CellsAt w g o (flatR rs) → (∀ r ∈ rs, RwR w S r) → EnsR w S (Ens.ofL (rs.map prR)) g o
  | [], g, o, _, _ => by rw [List.map_nil, Ens.ofL]; unfold EnsR; trivial
  | r :: rs, g, o, hc, hr => by
    rw [List.map_cons, Ens.ofL]
    unfold EnsR
    rw [flatR_cons] at hc
    refine ⟨⟨_, _, _, _, _, hc 0 _ rfl, hc 1 _ rfl, hc 2 _ rfl, hc 3 _ rfl, hc 4 _ rfl, hc 5 _ rfl, hr r (by simp)⟩, rows_ens rs g (o + 6) (fun j u hj => ?_) (fun q hq => hr q (by simp [hq]))⟩
    have := hc (j + 6) u (by simpa [encR] using hj)
    rw [show o + (j + 6) = o + 6 + j by omega] at this
    exact this
theorem RwR.kind {w : World} {S : Nat → Prop} {r : Rw} (h : RwR w S r) : r.k = r.x.kind := by
  have := kind_c0 h
  injection this
theorem ensV_rows {w : World} {S : Nat → Prop} {l : Ens} {A : Option Addr} {c : Nat} (h : EnsV w S l A c) (hS : ∀ g, S g → g < w.heap.size) : ∃ rs : List Rw, rs.map prR = l.toL ∧ rs.length = l.len ∧ RowsV w A rs ∧ ∀ r ∈ rs, RwR w S r := by
  rcases Nat.eq_zero_or_pos l.len with h0 | h0
  · cases l with
    | nil => exact ⟨[], rfl, rfl, (fun h => by simp at h), (fun r hr => by cases hr)⟩
    | cons s x xs => simp [Ens.len] at h0
  · obtain ⟨g, o, e, hg, hr⟩ := h.2 h0
    obtain ⟨rs, h1, h2, h3⟩ := ens_rows l g o hr
    have hl : rs.length = l.len := by rw [← Ens.toL_len, ← h1, List.length_map]
    exact ⟨rs, h1, hl, fun _ => ⟨g, o, e, hS g hg, h2⟩, h3⟩
theorem wdE_iff (W : Nat) : ∀ d : Ens, wdE W d ↔ ∀ p ∈ d.toL, wdO W p.2
  | .nil => by unfold wdE; simp [Ens.toL]
  | .cons s x xs => by
    unfold wdE
    rw [wdE_iff W xs, Ens.toL]
    simp only [List.mem_cons, forall_eq_or_imp]
theorem htE_le (n : Nat) : ∀ d : Ens, (∀ p ∈ d.toL, htO p.2 ≤ n) → htE d ≤ n
  | .nil, _ => by rw [htE]; omega
  | .cons s x xs, h => by
    rw [Ens.toL] at h
    have h1 := h (s, x) (by simp)
    have h2 := htE_le n xs (fun p hp => h p (by simp [hp]))
    rw [htE]
    dsimp only at h1
    omega
theorem htE_ge : ∀ (d : Ens) (p : KV), p ∈ d.toL → htO p.2 ≤ htE d
  | .nil, p, h => by simp [Ens.toL] at h
  | .cons s x xs, p, h => by
    rw [Ens.toL] at h
    rw [htE]
    rcases List.mem_cons.1 h with rfl | h
    · dsimp only; omega
    · have := htE_ge xs p h; omega
/-- What lasts leaves. -/
def LasP (rs : List Rw) (w : World) (e : Ending) (w' : World) : Prop := ∃ A c ks rs', e = .returned (.slice A ks.length c) ∧ ks = keepL (lastB rs') 0 rs' ∧ Srt keyR rs' ∧ Stb keyR rs rs' ∧ (ks.length ≤ c ∧ c ≤ 9223372036854775807) ∧ (0 < ks.length → ∃ g, A = some ⟨g, 0, none⟩ ∧ w.heap.size ≤ g ∧ g < w'.heap.size ∧ CellsAt w' g 0 (flatR ks)) ∧ Below w.heap.size w w'
theorem own_rows {w : World} {base n : Nat} {A : Option Addr} {c : Nat} {ks : List Rw} (h : w.ownsRow base 32 6 (.slice A n c) n (flatR ks)) : 0 < n → ∃ g, A = some ⟨g, 0, none⟩ ∧ base ≤ g ∧ g < w.heap.size ∧ CellsAt w g 0 (flatR ks) := fun h0 => by
  obtain ⟨g, e, h1, h2, _, h3⟩ := row_block h h0
  exact ⟨g, e, h1, h2, h3⟩
set_option maxHeartbeats 4000000 in
theorem lastsC (rs : List Rw) (A : Option Addr) (c : Nat) (w : World) (hA : RowsV w A rs) (hlen : rs.length ≤ 1000000000) : Calls Try.prog 38 #[.slice A rs.length c] w (LasP rs w) := by
  have hb1 := (Below.refl w.heap.size w).alloc (Nat.le_refl _) (.cells #[.slice A rs.length c] 25)
  have hn1 := heap_alloc_new w (.cells #[.slice A rs.length c] 25)
  have hs1 : (w.alloc (.cells #[.slice A rs.length c] 25)).heap.size = w.heap.size + 1 := by simp
  obtain ⟨W1, hW1⟩ : ∃ W1, w.alloc (.cells #[.slice A rs.length c] 25) = W1 := ⟨_, rfl⟩
  rw [hW1] at hb1 hn1 hs1
  have HRI := Lib.hid (risingR rs A c W1 (hA.below hb1) hlen)
  have HB1 := Lib.hid hb1
  have HN1 := Lib.hid hn1
  have HS1 := Lib.hid hs1
  have HW1 := Lib.hid hW1
  obtain ⟨N, hN⟩ : ∃ N, rs.length = N := ⟨_, rfl⟩
  have HN := Lib.hid hN
  rw [hN] at HRI HN1 HW1 hlen ⊢
  have q0 : W1.cell? ⟨w.heap.size, 0, none⟩ = some (.slice A N c) := by rw [cell_of_row _ _ 0 _ _ (0, 0) HN1.out]; rfl
  have q1 : W1.frozen? ⟨w.heap.size, 0, none⟩ = false := by have := HN1.out; simp [World.frozen?, this]
  clear hb1 hn1 hs1 hW1 hA hN
  go_enter Try.func38, Try.ntmps38
  go_upto_region 1 with fail
  rw [HW1.out]
  go_upto_region 2 with (go_at_call 50; (with_reducible refine HRI.out.mono ?_); (rintro r W2 ⟨A2, c2, rs', rfl, p1, p2, p3, p4, p5⟩); have HN2 := Lib.hid (blk_keep9 p5 HN1.out); have P1 := Lib.hid p1; have P2 := Lib.hid p2; have P3 := Lib.hid p3.1; have P4 := Lib.hid p4; have P5 := Lib.hid p5; (have y0 : W2.cell? ⟨w.heap.size, 0, none⟩ = some (.slice A N c) := by rw [cell_of_row _ _ 0 _ _ (0, 0) HN2.out]; rfl); (have y1 : W2.frozen? ⟨w.heap.size, 0, none⟩ = false := by have := HN2.out; simp [World.frozen?, this]); clear q0 q1 p1 p2 p3 p4 p5 HRI)
  have hst : Only w.heap.size W2 (W2.setCell ⟨w.heap.size, 0, none⟩ (.slice A2 rs.length c2)) := (Only.refl _ W2).set_ 0 _
  have hn3 : (W2.setCell ⟨w.heap.size, 0, none⟩ (.slice A2 rs.length c2)).heap[w.heap.size]? = some (.cells #[.slice A2 rs.length c2] 25 (0, 0)) := heap_set W2 w.heap.size 0 _ [.slice A N c] _ HN2.out
  obtain ⟨W3, hW3⟩ : ∃ W3, W2.setCell ⟨w.heap.size, 0, none⟩ (.slice A2 rs.length c2) = W3 := ⟨_, rfl⟩
  rw [hW3] at hst hn3 ⊢
  have hb4 := (Below.refl W3.heap.size W3).alloc (Nat.le_refl _) (.cells #[.int .i64 0] 3)
  have hn4 := heap_alloc_new W3 (.cells #[.int .i64 0] 3)
  have hs4 : (W3.alloc (.cells #[.int .i64 0] 3)).heap.size = W3.heap.size + 1 := by simp
  obtain ⟨W4, hW4⟩ : ∃ W4, W3.alloc (.cells #[.int .i64 0] 3) = W4 := ⟨_, rfl⟩
  rw [hW4] at hb4 hn4 hs4
  have hl := P2.out.len
  have hs2 : W1.heap.size ≤ W2.heap.size := P5.out.size
  have hs3 : W2.heap.size ≤ W3.heap.size := hst.size
  have hs1 := HS1.out
  have hn3' := (hb4.block w.heap.size (by omega)).trans hn3
  have HCS : Hid (∀ g, A2 = some ⟨g, 0, none⟩ → W1.heap.size ≤ g → g < W2.heap.size → CellsAt W2 g 0 (flatR rs') → CellsAt W4 g 0 (flatR rs')) := Lib.hid (fun g _ h1 h2 hc j u hj => ((World.cell?_of_block (a := ⟨g, 0 + j, none⟩) (hb4.block g (by omega))).trans (World.cell?_of_block (a := ⟨g, 0 + j, none⟩) (hst.block g h2 (by omega)))).trans (hc j u hj))
  have HRV : Hid (RowsV W4 A2 rs') := Lib.hid (fun h0 => by
    rw [hl] at h0
    obtain ⟨g, e, h1, h2, h3⟩ := P4.out h0
    exact ⟨g, 0, e, by omega, HCS.out g e h1 h2 h3⟩)
  have heg : ∀ args W, (callFunc 58 args).run Try.prog W = .ok (.enter 58 args) W := enters_of Try.func58 (by kernel_rfl) rfl
  have HKE : Hid (∃ Inv, Calls Try.prog 57 #[.slice A2 rs.length c2, .func (.func 58) #[] #[.pointer (some ⟨W3.heap.size, 0, none⟩), .pointer (some ⟨w.heap.size, 0, none⟩)]] W4 (KepP rs' (lastB rs') Inv W3.heap.size W4)) := Lib.hid (by
    rcases Nat.eq_zero_or_pos rs.length with h0 | h0
    · have h9 := keptC 58 #[.pointer (some ⟨W3.heap.size, 0, none⟩), .pointer (some ⟨w.heap.size, 0, none⟩)] rs' (lastB rs') (fun _ _ => True) W3.heap.size A2 c2 W4 heg (fun i r W hr => by
        have hz : rs' = [] := List.eq_nil_of_length_eq_zero (by rw [hl]; exact h0)
        subst hz; simp at hr) (fun _ _ _ _ _ _ => trivial) trivial HRV.out (by omega) (fun h1 => by rw [hl] at h1; omega) (by rw [hl]; exact P3.out) (by rw [hl, HN.out]; exact hlen)
      rw [hl] at h9
      exact ⟨_, h9⟩
    · obtain ⟨g, e, h1, h2, h3⟩ := P4.out h0
      have h9 := keptC 58 #[.pointer (some ⟨W3.heap.size, 0, none⟩), .pointer (some ⟨w.heap.size, 0, none⟩)] rs' (lastB rs') (LastI rs' W3.heap.size w.heap.size g c2) W3.heap.size A2 c2 W4 heg (lastKeep rs' W3.heap.size w.heap.size g c2 (by omega) (by omega) (by rw [hl]; exact P3.out) (by rw [hl, HN.out]; exact hlen)) (fun i W W' hI hz hk => by
          obtain ⟨i1, i2, i3, i4⟩ := hI
          exact ⟨(hk _ (by omega)).trans i1, (hk _ (by omega)).trans i2, fun j u hj => (World.cell?_of_block (a := ⟨g, 0 + j, none⟩) (hk g (by omega))).trans (i3 j u hj), by omega⟩)
        ⟨hn4, by rw [hl, ← e]; exact hn3', HCS.out g e h1 h2 h3, by omega⟩ HRV.out (by omega) (fun _ g' o e' => by rw [e] at e'; injection e' with e'; injection e' with e'; omega) (by rw [hl]; exact P3.out) (by rw [hl, HN.out]; exact hlen)
      rw [hl] at h9
      exact ⟨_, h9⟩)
  obtain ⟨Inv, hke⟩ := HKE.out
  have HK2 := Lib.hid hke
  have HLO : Hid (Below w.heap.size w W4) := Lib.hid (((HB1.out.trans (P5.out.mono HB1.out.size)).trans (hst.belowB (Nat.le_refl _) (by omega))).trans (hb4.mono (by omega)))
  have HZ3 : Hid (w.heap.size ≤ W3.heap.size ∧ W3.heap.size ≤ W4.heap.size) := Lib.hid ⟨by omega, by omega⟩
  have z0 : W3.cell? ⟨w.heap.size, 0, none⟩ = some (.slice A2 rs.length c2) := by rw [cell_of_row _ _ 0 _ _ (0, 0) hn3]; rfl
  have hlt3 : w.heap.size < W3.heap.size := by omega
  have HW4 := Lib.hid hW4
  clear y0 y1 hst hn3 hW3 hb4 hn4 hs4 hW4 hl hs2 hs3 hs1 hn3' heg hke HKE
  go_upto_region 3 with fail
  rw [HW4.out]
  have u0 : W4.cell? ⟨w.heap.size, 0, none⟩ = some (.slice A2 rs.length c2) := by rw [← HW4.out, World.cell?_alloc_lt _ _ _ hlt3]; exact z0
  clear z0
  go_wp2_with (go_at_call 57; (with_reducible refine HK2.out.mono ?_); (rintro r w5 ⟨A5, c5, rfl, k1, _, k3⟩); have K1 := Lib.hid k1; have K3 := Lib.hid k3; clear k1 k3 HK2)
  go_ret
  exact ⟨A5, c5, _, rs', rfl, rfl, P1.out, P2.out, row_cap K1.out, fun h0 => by
    obtain ⟨g, e, h1, h2, h3⟩ := own_rows K1.out h0
    exact ⟨g, e, by have := HLO.out.size; omega, h2, h3⟩, HLO.out.trans (K3.out.belowB HZ3.out.1 HZ3.out.2)⟩
end

section
open Go.RowKit Go.Sort
set_option linter.unusedVariables false
set_option maxRecDepth 100000
theorem pIntC (n : Int) (w : World) (hn : -9223372036854775808 ≤ n ∧ n ≤ 9223372036854775807) : Calls Try.prog 22 #[.int .i64 n] w (CpP w (.mk 2 n [] .nil .nil)) := by
  go_enter Try.func22, Try.ntmps22
  go_wp2_with fail
  refine bodyPost_ret (results_cell_row rfl _ _ w.heap.size 27 _ (0, 0) _ rfl (heap_alloc_new w _) Try.underlying27 rfl (by kernel_rfl)) rfl ?_
  exact ⟨_, _, _, _, _, rfl, ObR.plain (by omega) hn (bytS_nil _ _), (Below.refl _ _).alloc (Nat.le_refl _) _⟩
theorem pNoneC (w : World) : Calls Try.prog 37 #[] w (CpP w (.mk 0 0 [] .nil .nil)) := by
  go_enter Try.func37, Try.ntmps37
  go_wp2_with fail
  refine bodyPost_ret (results_cell_row rfl _ _ w.heap.size 27 _ (0, 0) _ rfl (heap_alloc_new w _) Try.underlying27 rfl (by kernel_rfl)) rfl ?_
  exact ⟨_, _, _, _, _, rfl, ObR.plain (by omega) (by omega) (bytS_nil _ _), (Below.refl _ _).alloc (Nat.le_refl _) _⟩
abbrev oldT (w : World) : Nat → Prop := fun g => g < w.heap.size
/-- Copy of what a maker has laid out. -/
theorem copyOld {x : Ob} {w : World} {c0 c1 c2 c3 c4 : Value} (W : Nat) (hx : ObR w (oldT w) x c0 c1 c2 c3 c4) (hW : wdO W x) (hK : W * htO x ≤ 1000000000) : Calls Try.prog 21 #[.agg #[c0, c1, c2, c3, c4]] w (CpP w x) :=
  pCopyC _ W x hW hK (Nat.le_refl _) (oldT w) w c0 c1 c2 c3 c4 hx (fun _ h => h)
end

section
open Go.RowKit Go.Sort
set_option linter.unusedVariables false
set_option maxRecDepth 100000
/-- The entries of a dictionary, as lasts has laid them. -/
theorem las_ens {l : Ens} {Sl : Nat → Prop} {w w2 : World} {rs rs' ks : List Rw} {A : Option Addr} {c : Nat} (h1 : rs.map prR = l.toL) (h3 : ∀ r ∈ rs, RwR w Sl r) (hS : ∀ g, Sl g → g < w.heap.size) (hk : ∀ p ∈ l.toL, 0 ≤ p.2.kind ∧ p.2.kind ≤ 9) (hks : ks = keepL (lastB rs') 0 rs') (s1 : Srt keyR rs') (s2 : Stb keyR rs rs') (hcap : ks.length ≤ c ∧ c ≤ 9223372036854775807)
    (hc : 0 < ks.length → ∃ g, A = some ⟨g, 0, none⟩ ∧ w.heap.size ≤ g ∧ g < w2.heap.size ∧ CellsAt w2 g 0 (flatR ks)) (hb : Below w.heap.size w w2) : ks.length = (dictF l .nil).len ∧ EnsV w2 (oldT w2) (dictF l .nil) A c ∧ ∀ p ∈ (dictF l .nil).toL, p ∈ l.toL := by
  have hkk : ∀ r ∈ rs, r.k = r.x.kind ∧ 0 ≤ r.k ∧ r.k ≤ 9 := fun r hr => by
    have e := (h3 r hr).kind
    have := hk (prR r) (by rw [← h1]; exact List.mem_map_of_mem hr)
    exact ⟨e, by rw [e]; exact this.1, by rw [e]; exact this.2⟩
  have hd := lasts_dict l rs rs' h1 hkk s1 s2
  rw [← hks] at hd
  have hmem : ∀ r ∈ ks, r ∈ rs := fun r hr => by
    have h0 := keep_lasts rs' _ 0 rfl
    rw [List.drop_zero] at h0
    rw [hks, h0] at hr
    exact (s2.mem r).1 (lastsR_mem rs' r hr)
  have hlen : ks.length = (dictF l .nil).len := by rw [← Ens.toL_len, ← hd, List.length_map]
  refine ⟨hlen, ⟨by rw [← hlen]; exact hcap, fun h0 => ?_⟩, fun p hp => ?_⟩
  · obtain ⟨g, e, g1, g2, g3⟩ := hc (by rw [hlen]; exact h0)
    have hr := rows_ens (S := oldT w2) ks g 0 g3 (fun r hr => ObR.keep (fun b hb' => hb.block b (hS b hb')) (fun b hb' => show b < w2.heap.size by have := hS b hb'; have := hb.size; omega) _ (h3 r (hmem r hr)))
    rw [hd, Ens.of_to] at hr
    exact ⟨g, 0, e, g2, hr⟩
  · rw [← hd] at hp
    obtain ⟨r, hr, rfl⟩ := List.mem_map.1 hp
    rw [← h1]
    exact List.mem_map_of_mem (hmem r hr)
set_option maxHeartbeats 1000000 in
theorem pDictC (W : Nat) (l : Ens) (Sl : Nat → Prop) (w : World) (A : Option Addr) (c : Nat) (hl : EnsV w Sl l A c) (hS : ∀ g, Sl g → g < w.heap.size) (hk : ∀ p ∈ l.toL, 0 ≤ p.2.kind ∧ p.2.kind ≤ 9) (hw : wdE W l) (hll : l.len ≤ W) (hW : W * (1 + htE l) ≤ 1000000000) (hW2 : W ≤ 100000000) : Calls Try.prog 11 #[.slice A l.len c] w (CpP w (.mk 7 0 [] .nil (dictF l .nil))) := by
  have HB := Lib.hid ((Below.refl w.heap.size w).alloc (Nat.le_refl _) (.cells #[.int .i64 0, .int .i64 0, .slice none 0 0, .slice none 0 0, .slice none 0 0] 27))
  have HN := Lib.hid (heap_alloc_new w (.cells #[.int .i64 0, .int .i64 0, .slice none 0 0, .slice none 0 0, .slice none 0 0] 27))
  obtain ⟨W0, hW0⟩ : ∃ W0, w.alloc (.cells #[.int .i64 0, .int .i64 0, .slice none 0 0, .slice none 0 0, .slice none 0 0] 27) = W0 := ⟨_, rfl⟩
  have hs0 : W0.heap.size = w.heap.size + 1 := by rw [← hW0]; simp
  rw [hW0] at HB HN
  have HS0 := Lib.hid hs0
  have HW0 := Lib.hid hW0
  clear hs0 hW0
  obtain ⟨rs, h1, h2, h4, h3⟩ := ensV_rows hl hS
  have HLA := Lib.hid (lastsC rs A c W0 (h4.below HB.out) (by omega))
  rw [h2] at HLA
  have HD : Hid (∀ A2 c2 (ks rs' : List Rw) w2, ks = keepL (lastB rs') 0 rs' → Srt keyR rs' → Stb keyR rs rs' → (ks.length ≤ c2 ∧ c2 ≤ 9223372036854775807) → (0 < ks.length → ∃ g, A2 = some ⟨g, 0, none⟩ ∧ W0.heap.size ≤ g ∧ g < w2.heap.size ∧ CellsAt w2 g 0 (flatR ks)) → Below W0.heap.size W0 w2 → Calls Try.prog 21 #[.agg #[.int .i64 7, .int .i64 0, .slice none 0 0, .slice none 0 0, .slice A2 ks.length c2]] w2 (CpP w2 (.mk 7 0 [] .nil (dictF l .nil)))) := Lib.hid (fun A2 c2 ks rs' w2 k1 k2 k3 k4 k5 k6 => by
    have hbw := HB.out.trans (k6.mono HB.out.size)
    obtain ⟨e1, e2, e3⟩ := las_ens h1 h3 hS hk k1 k2 k3 k4 (fun h0 => by
      obtain ⟨g, q1, q2, q3, q4⟩ := k5 h0
      exact ⟨g, q1, by have := HB.out.size; omega, q3, q4⟩) hbw
    refine copyOld (w := w2) W ?_ ?_ ?_
    · unfold ObR
      rw [e1]
      exact ⟨rfl, rfl, by omega, by omega, ⟨none, 0, 0, rfl, bytS_nil _ _⟩, ⟨none, 0, rfl, by simp [Obs.len], fun h => by simp [Obs.len] at h⟩, ⟨A2, c2, rfl, e2.1, e2.2⟩⟩
    · unfold wdO
      refine ⟨by simp, ?_, by unfold wdL; trivial, (wdE_iff W _).2 (fun p hp => (wdE_iff W l).1 hw p (e3 p hp))⟩
      rw [Obs.len, ← e1, k1]
      have := keepL_len (lastB rs') 0 rs'
      rw [k3.len, h2] at this
      omega
    · have := htE_le (htE l) (dictF l .nil) (fun p hp => htE_ge l p (e3 p hp))
      rw [htO, htL]
      exact Nat.le_trans (Nat.mul_le_mul_left W (by omega)) hW)
  have HLL := Lib.hid h2
  clear hl hS hk hw hW h1 h2 h3 h4
  go_enter Try.func11, Try.ntmps11
  go_upto_region 1 with fail
  rw [HW0.out]
  go_wp2_with (first | (go_at_call 38; (with_reducible refine HLA.out.mono ?_); (rintro r w2 ⟨A2, c2, ks, rs', rfl, k1, k2, k3, k4, k5, k6⟩); have HCP := Lib.hid (HD.out A2 c2 ks rs' w2 k1 k2 k3 k4 k5 k6); have HNX := Lib.hid (blk_keep9 k6 HN.out); have HBX := Lib.hid (HB.out.trans (k6.mono HB.out.size)); have HZ3 := Lib.hid k6.size; clear k1 k2 k3 k4 k5 k6 HLA HD) | (go_at_call 21; (with_reducible refine HCP.out.mono ?_); (rintro r w3 ⟨d0, d1, d2, d3, d4, rfl, hx3, hb3⟩); (obtain ⟨k9, n9, A29, m29, c29, A39, m39, c39, A49, m49, c49, rfl, rfl, rfl, rfl, rfl⟩ := hx3.form); have HX3 := Lib.hid hx3; have HN3 := Lib.hid (blk_keep9 hb3 HNX.out); have HB3 := Lib.hid (HBX.out.trans (hb3.mono HBX.out.size)); (obtain ⟨r0, r1, r2, r3, r4, r5⟩ := zero_cells HN3.out); clear hx3 hb3 HCP))
  refine bodyPost_ret (results_cell_row rfl _ _ w.heap.size 27 _ (0, 0) _ rfl (set5_row HN3.out) Try.underlying27 rfl (by kernel_rfl)) rfl ?_
  exact ⟨_, _, _, _, _, rfl, ObR.keep (fun g hg => heap_set5 (by have := hg.1; have := HS0.out; have := HZ3.out; omega)) (fun g hg => ⟨by have := hg.1; have := HS0.out; have := HZ3.out; omega, by rw [size_set5]; exact hg.2⟩) _ HX3.out, below_set5 HB3.out (Nat.le_refl _)⟩
end

section
open Go.RowKit Go.Sort
set_option linter.unusedVariables false
set_option maxRecDepth 100000
theorem set6_row {W : World} {g : Nat} {z0 z1 z2 z3 z4 z5 x0 x1 x2 x3 x4 x5 : Value} {T : TypeId} (h : W.heap[g]? = some (.cells #[z0, z1, z2, z3, z4, z5] T (0, 0))) : ((((((W.setCell ⟨g, 0, none⟩ x0).setCell ⟨g, 1, none⟩ x1).setCell ⟨g, 2, none⟩ x2).setCell ⟨g, 3, none⟩ x3).setCell ⟨g, 4, none⟩ x4).setCell ⟨g, 5, none⟩ x5).heap[g]? = some (.cells #[x0, x1, x2, x3, x4, x5] T (0, 0)) := by
  have h1 := heap_set W g 0 x0 [z0, z1, z2, z3, z4, z5] _ h
  have h2 := heap_set _ g 1 x1 _ _ h1
  have h3 := heap_set _ g 2 x2 _ _ h2
  have h4 := heap_set _ g 3 x3 _ _ h3
  have h5 := heap_set _ g 4 x4 _ _ h4
  exact heap_set _ g 5 x5 _ _ h5
theorem heap_set6 {W : World} {b g : Nat} {x0 x1 x2 x3 x4 x5 : Value} (hl : b ≠ g) : ((((((W.setCell ⟨g, 0, none⟩ x0).setCell ⟨g, 1, none⟩ x1).setCell ⟨g, 2, none⟩ x2).setCell ⟨g, 3, none⟩ x3).setCell ⟨g, 4, none⟩ x4).setCell ⟨g, 5, none⟩ x5).heap[b]? = W.heap[b]? :=
  (set_blk9 _ g 5 b x5 hl).trans (heap_set5 hl)
theorem size_set6 {W : World} {g : Nat} {x0 x1 x2 x3 x4 x5 : Value} : ((((((W.setCell ⟨g, 0, none⟩ x0).setCell ⟨g, 1, none⟩ x1).setCell ⟨g, 2, none⟩ x2).setCell ⟨g, 3, none⟩ x3).setCell ⟨g, 4, none⟩ x4).setCell ⟨g, 5, none⟩ x5).heap.size = W.heap.size := by simp [World.setCell]
theorem below_set6 {B : Nat} {w W : World} {g : Nat} {x0 x1 x2 x3 x4 x5 : Value} (h : Below B w W) (hl : B ≤ g) : Below B w ((((((W.setCell ⟨g, 0, none⟩ x0).setCell ⟨g, 1, none⟩ x1).setCell ⟨g, 2, none⟩ x2).setCell ⟨g, 3, none⟩ x3).setCell ⟨g, 4, none⟩ x4).setCell ⟨g, 5, none⟩ x5) :=
  (below_set5 h hl).setCell (p := ⟨g, 5, none⟩) hl x5
/-- What Pair answers. -/
def PaP (w : World) (s : ByteArray) (x : Ob) (r : Ending) (w' : World) : Prop := ∃ d0 d1 d2 d3 d4, r = .returned (.agg #[.string s, d0, d1, d2, d3, d4]) ∧ ObR w' (fun g => w.heap.size ≤ g ∧ g < w'.heap.size) x d0 d1 d2 d3 d4 ∧ Below w.heap.size w w'
set_option maxHeartbeats 1000000 in
theorem pPairC (W : Nat) (s : ByteArray) (x : Ob) (S : Nat → Prop) (w : World) (c0 c1 c2 c3 c4 : Value) (hx : ObR w S x c0 c1 c2 c3 c4) (hS : ∀ g, S g → g < w.heap.size) (hW : wdO W x) (hK : W * htO x ≤ 1000000000) : Calls Try.prog 12 #[.string s, .agg #[c0, c1, c2, c3, c4]] w (PaP w s x) := by
  have a1 := (Below.refl w.heap.size w).alloc (Nat.le_refl _) (.cells #[c0, c1, c2, c3, c4] 27)
  have n1 := heap_alloc_new w (.cells #[c0, c1, c2, c3, c4] 27)
  have z1 : (w.alloc (.cells #[c0, c1, c2, c3, c4] 27)).heap.size = w.heap.size + 1 := by simp
  obtain ⟨W1, hW1⟩ : ∃ W1, w.alloc (.cells #[c0, c1, c2, c3, c4] 27) = W1 := ⟨_, rfl⟩
  rw [hW1] at a1 n1 z1
  have a2 := (Below.refl W1.heap.size W1).alloc (Nat.le_refl _) (.cells #[.string ⟨#[]⟩, .int .i64 0, .int .i64 0, .slice none 0 0, .slice none 0 0, .slice none 0 0] 32)
  have n2 := heap_alloc_new W1 (.cells #[.string ⟨#[]⟩, .int .i64 0, .int .i64 0, .slice none 0 0, .slice none 0 0, .slice none 0 0] 32)
  have z2 : (W1.alloc (.cells #[.string ⟨#[]⟩, .int .i64 0, .int .i64 0, .slice none 0 0, .slice none 0 0, .slice none 0 0] 32)).heap.size = w.heap.size + 2 := by simp; omega
  obtain ⟨W2, hW2⟩ : ∃ W2, W1.alloc (.cells #[.string ⟨#[]⟩, .int .i64 0, .int .i64 0, .slice none 0 0, .slice none 0 0, .slice none 0 0] 32) = W2 := ⟨_, rfl⟩
  rw [hW2] at a2 n2 z2
  rw [z1] at n2
  have e1 := (a2.block w.heap.size (by omega)).trans n1
  have lo := a1.trans (a2.mono (by omega))
  have HCP := Lib.hid (pCopyC 1000000000 W x hW hK (Nat.le_refl _) S W2 c0 c1 c2 c3 c4 (ObR.keep (fun g hg => lo.block g (hS g hg)) (fun _ h => h) x hx) (fun g hg => by have := hS g hg; omega))
  have k0 : W2.cell? ⟨w.heap.size, 0, none⟩ = some c0 := cell_of_row _ _ 0 _ _ (0, 0) e1
  have k1 : W2.cell? ⟨w.heap.size, 1, none⟩ = some c1 := cell_of_row _ _ 1 _ _ (0, 0) e1
  have k2 : W2.cell? ⟨w.heap.size, 2, none⟩ = some c2 := cell_of_row _ _ 2 _ _ (0, 0) e1
  have k3 : W2.cell? ⟨w.heap.size, 3, none⟩ = some c3 := cell_of_row _ _ 3 _ _ (0, 0) e1
  have k4 : W2.cell? ⟨w.heap.size, 4, none⟩ = some c4 := cell_of_row _ _ 4 _ _ (0, 0) e1
  have HN2 := Lib.hid n2
  have HLO := Lib.hid lo
  have HZ2 := Lib.hid z2
  have HW1 := Lib.hid hW1
  have HW2 := Lib.hid hW2
  have HZ1 := Lib.hid z1
  clear a1 a2 n1 n2 z1 z2 e1 lo hW1 hW2 hx hS hW hK
  go_enter Try.func12, Try.ntmps12
  go_upto_region 1 with fail
  rw [HW1.out, HW2.out]
  go_wp2_with (go_at_call 21; (with_reducible refine HCP.out.mono ?_); (rintro r w3 ⟨d0, d1, d2, d3, d4, rfl, hx3, hb3⟩); (obtain ⟨k9, n9, A29, m29, c29, A39, m39, c39, A49, m49, c49, rfl, rfl, rfl, rfl, rfl⟩ := hx3.form); have HX3 := Lib.hid hx3; have HN3 := Lib.hid (blk_keep9 hb3 HN2.out); have HB3 := Lib.hid (HLO.out.trans (hb3.mono HLO.out.size)); (have r0 : w3.cell? ⟨w.heap.size + 1, 0, none⟩ = some _ := cell_of_row _ _ 0 _ _ (0, 0) HN3.out); (have r1 : w3.cell? ⟨w.heap.size + 1, 1, none⟩ = some _ := cell_of_row _ _ 1 _ _ (0, 0) HN3.out); (have r2 : w3.cell? ⟨w.heap.size + 1, 2, none⟩ = some _ := cell_of_row _ _ 2 _ _ (0, 0) HN3.out); (have r3 : w3.cell? ⟨w.heap.size + 1, 3, none⟩ = some _ := cell_of_row _ _ 3 _ _ (0, 0) HN3.out); (have r4 : w3.cell? ⟨w.heap.size + 1, 4, none⟩ = some _ := cell_of_row _ _ 4 _ _ (0, 0) HN3.out); (have r5 : w3.cell? ⟨w.heap.size + 1, 5, none⟩ = some _ := cell_of_row _ _ 5 _ _ (0, 0) HN3.out); (have rf : ∀ i, w3.frozen? ⟨w.heap.size + 1, i, none⟩ = false := fun i => by have := HN3.out; simp [World.frozen?, this]); clear hx3 hb3 HCP k0 k1 k2 k3 k4)
  refine bodyPost_ret (results_cell_row rfl _ _ (w.heap.size + 1) 32 _ (0, 0) _ rfl (set6_row HN3.out) Try.underlying32 rfl (by kernel_rfl)) rfl ?_
  exact ⟨_, _, _, _, _, rfl, ObR.keep (fun g hg => heap_set6 (by have := hg.1; have := HZ2.out; omega)) (fun g hg => ⟨by have := hg.1; have := HZ2.out; omega, by rw [size_set6]; exact hg.2⟩) _ HX3.out, below_set6 HB3.out (by omega)⟩
end

section
open Go.RowKit Go.Sort
set_option linter.unusedVariables false
set_option maxRecDepth 100000
abbrev nilV : Value := .slice none 0 0
def usedV (k n : Int) (vB vL vD : Value) : Value :=
  if k = 1 ∨ k = 2 ∨ k = 3 ∨ k = 9 then .agg #[.int .i64 k, .int .i64 n, nilV, nilV, nilV]
  else if k = 4 ∨ k = 5 then .agg #[.int .i64 k, .int .i64 0, vB, nilV, nilV]
  else if k = 6 then .agg #[.int .i64 k, .int .i64 0, nilV, vL, nilV]
  else if k = 7 then .agg #[.int .i64 k, .int .i64 0, nilV, nilV, vD]
  else if k = 8 then .agg #[.int .i64 k, .int .i64 0, vB, nilV, vD]
  else .agg #[.int .i64 0, .int .i64 0, nilV, nilV, nilV]
theorem pNone0 (w : World) : Calls Try.prog 37 #[] w fun e w' => e = .returned (.agg #[.int .i64 0, .int .i64 0, nilV, nilV, nilV]) ∧ Below w.heap.size w w' := by
  go_enter Try.func37, Try.ntmps37
  go_wp2_with fail
  exact bodyPost_ret (results_cell_row rfl _ _ w.heap.size 27 _ (0, 0) _ rfl (heap_alloc_new w _) Try.underlying27 rfl (by kernel_rfl)) rfl ⟨rfl, (Below.refl _ _).alloc (Nat.le_refl _) _⟩
set_option maxHeartbeats 4000000 in
theorem usedC (k n : Int) (A2 A3 A4 : Option Addr) (m2 c2 m3 c3 m4 c4 : Nat) (w : World) :
    Calls Try.prog 56 #[.agg #[.int .i64 k, .int .i64 n, .slice A2 m2 c2, .slice A3 m3 c3, .slice A4 m4 c4]] w fun e w' => e = .returned (usedV k n (.slice A2 m2 c2) (.slice A3 m3 c3) (.slice A4 m4 c4)) ∧ Below w.heap.size w w' := by
  have HU := usesC k
  have HB : Hid (∀ o1 o2 : Obj, Below w.heap.size w ((w.alloc o1).alloc o2)) := Lib.hid (fun o1 o2 => ((Below.refl _ _).alloc (Nat.le_refl _) o1).alloc (by simp) o2)
  by_cases h : k = 1 ∨ k = 2 ∨ k = 3 ∨ k = 4 ∨ k = 5 ∨ k = 6 ∨ k = 7 ∨ k = 8 ∨ k = 9
  · rcases h with rfl | rfl | rfl | rfl | rfl | rfl | rfl | rfl | rfl
    all_goals
      simp [usesZ] at HU
      go_enter Try.func56, Try.ntmps56
      go_wp2_with (go_at_call 63; refine (HU _).mono ?_; rintro e w' ⟨rfl, rfl⟩)
      refine bodyPost_ret (results_cell_row rfl _ _ (w.heap.size + 1) 27 _ (0, 0) _ rfl (heap_alloc2_new w _ _) Try.underlying27 rfl (by kernel_rfl)) rfl ?_
      exact ⟨by simp [usedV], HB.out _ _⟩
  · have e : usesZ k = 0 := by unfold usesZ; rw [if_neg (by omega), if_neg (by omega), if_neg (by omega), if_neg (by omega), if_neg (by omega)]
    have e2 : usedV k n (.slice A2 m2 c2) (.slice A3 m3 c3) (.slice A4 m4 c4) = .agg #[.int .i64 0, .int .i64 0, nilV, nilV, nilV] := by unfold usedV; rw [if_neg (by omega), if_neg (by omega), if_neg (by omega), if_neg (by omega), if_neg (by omega)]
    rw [e2]
    rw [e] at HU
    have HB2 := Lib.hid (HB.out (.cells #[.int .i64 k, .int .i64 n, .slice A2 m2 c2, .slice A3 m3 c3, .slice A4 m4 c4] 27) (.cells #[.int .i64 0, .int .i64 0, .slice none 0 0, .slice none 0 0, .slice none 0 0] 27))
    have hn := heap_alloc2_new w (.cells #[.int .i64 k, .int .i64 n, .slice A2 m2 c2, .slice A3 m3 c3, .slice A4 m4 c4] 27) (.cells #[.int .i64 0, .int .i64 0, .slice none 0 0, .slice none 0 0, .slice none 0 0] 27)
    have hsz : ((w.alloc (.cells #[.int .i64 k, .int .i64 n, .slice A2 m2 c2, .slice A3 m3 c3, .slice A4 m4 c4] 27)).alloc (.cells #[.int .i64 0, .int .i64 0, .slice none 0 0, .slice none 0 0, .slice none 0 0] 27)).heap.size = w.heap.size + 2 := by simp
    have hk0 : ((w.alloc (.cells #[.int .i64 k, .int .i64 n, .slice A2 m2 c2, .slice A3 m3 c3, .slice A4 m4 c4] 27)).alloc (.cells #[.int .i64 0, .int .i64 0, .slice none 0 0, .slice none 0 0, .slice none 0 0] 27)).cell? ⟨w.heap.size, 0, none⟩ = some (.int .i64 k) := by simp
    obtain ⟨W2, hW2⟩ : ∃ W2, (w.alloc (.cells #[.int .i64 k, .int .i64 n, .slice A2 m2 c2, .slice A3 m3 c3, .slice A4 m4 c4] 27)).alloc (.cells #[.int .i64 0, .int .i64 0, .slice none 0 0, .slice none 0 0, .slice none 0 0] 27) = W2 := ⟨_, rfl⟩
    rw [hW2] at HB2 hn hsz hk0
    have HN := Lib.hid hn
    have HZ := Lib.hid hsz
    have HW2 := Lib.hid hW2
    clear h e e2 hn hsz hW2 HB
    go_enter Try.func56, Try.ntmps56
    go_upto_region 1 with fail
    rw [HW2.out]
    go_wp2_with (first | (go_at_call 63; refine (HU _).mono ?_; rintro e w' ⟨rfl, rfl⟩) | (go_at_call 37; refine (pNone0 _).mono ?_; (rintro r w3 ⟨rfl, hb3⟩); have HN3 := Lib.hid (blk_keep9 hb3 HN.out); have HB3 := Lib.hid (HB2.out.trans (hb3.mono HB2.out.size)); (obtain ⟨r0, r1, r2, r3, r4, r5⟩ := zero_cells HN3.out); clear hb3 hk0))
    refine bodyPost_ret (results_cell_row rfl _ _ (w.heap.size + 1) 27 _ (0, 0) _ rfl (set5_row HN3.out) Try.underlying27 rfl (by kernel_rfl)) rfl ?_
    exact ⟨rfl, below_set5 HB3.out (Nat.le_succ _)⟩
abbrev zeroOb : Ob := .mk 0 0 [] .nil .nil
/-- The entries of an object that has some. -/
def keyedE : Ob → Ens
  | .mk k _ _ _ d => if k = 7 ∨ k = 8 then d else .nil
def getF (x : Ob) (key : ByteArray) : Ob := (lk (keyedE x).toL key).getD zeroOb
theorem used_D {w : World} {S : Nat → Prop} {x : Ob} {c0 c1 c2 c3 c4 : Value} (hx : ObR w S x c0 c1 c2 c3 c4) : ∃ A c, EnsV w S (keyedE x) A c ∧ ∀ W, Calls Try.prog 56 #[.agg #[c0, c1, c2, c3, c4]] W fun e w' => (∃ k9 n9 A29 m29 c29 A39 m39 c39, e = .returned (.agg #[.int .i64 k9, .int .i64 n9, .slice A29 m29 c29, .slice A39 m39 c39, .slice A (keyedE x).len c])) ∧ Below W.heap.size W w' := by
  obtain ⟨k, n, b, l, d⟩ := x
  unfold ObR at hx
  obtain ⟨rfl, rfl, hk, hn, ⟨A2, m2, c2, rfl, hB⟩, ⟨A3, c3, rfl, h3, hl⟩, ⟨A4, c4, rfl, h4, hd⟩⟩ := hx
  by_cases h : k = 7 ∨ k = 8
  · have e : keyedE (.mk k n b l d) = d := by rw [keyedE, if_pos h]
    rw [e]
    refine ⟨A4, c4, ⟨h4, hd⟩, fun W => (usedC k n A2 A3 A4 m2 c2 l.len c3 d.len c4 W).mono ?_⟩
    rintro e w' ⟨rfl, hb⟩
    refine ⟨?_, hb⟩
    unfold usedV
    rcases h with rfl | rfl
    · exact ⟨_, _, _, _, _, _, _, _, by rw [if_neg (by omega), if_neg (by omega), if_neg (by omega), if_pos rfl]⟩
    · exact ⟨_, _, _, _, _, _, _, _, by rw [if_neg (by omega), if_neg (by omega), if_neg (by omega), if_neg (by omega), if_pos rfl]⟩
  · have e : keyedE (.mk k n b l d) = .nil := by rw [keyedE, if_neg h]
    rw [e]
    refine ⟨none, 0, ⟨by simp [Ens.len], fun h => by simp [Ens.len] at h⟩, fun W => (usedC k n A2 A3 A4 m2 c2 l.len c3 d.len c4 W).mono ?_⟩
    rintro e w' ⟨rfl, hb⟩
    refine ⟨?_, hb⟩
    unfold usedV
    split
    · exact ⟨_, _, _, _, _, _, _, _, rfl⟩
    · split
      · exact ⟨_, _, _, _, _, _, _, _, rfl⟩
      · split
        · exact ⟨_, _, _, _, _, _, _, _, rfl⟩
        · rw [if_neg (fun e => h (.inl e)), if_neg (fun e => h (.inr e))]
          exact ⟨_, _, _, _, _, _, _, _, rfl⟩
theorem Ens.get_none : ∀ (l : Ens) (j : Nat), l.len ≤ j → l.get? j = none
  | .nil, j, _ => rfl
  | .cons t y ys, 0, h => by simp [Ens.len] at h
  | .cons t y ys, j + 1, h => by rw [Ens.get?]; exact Ens.get_none ys j (by rw [Ens.len] at h; omega)
theorem lk_get : ∀ (l : Ens) (i : Nat) (s : ByteArray) (x : Ob), l.get? i = some (s, x) → (∀ j t y, j < i → l.get? j = some (t, y) → t ≠ s) → lk l.toL s = some x
  | .nil, i, s, x, h, _ => by simp [Ens.get?] at h
  | .cons t y ys, 0, s, x, h, _ => by
    simp [Ens.get?] at h; obtain ⟨rfl, rfl⟩ := h
    rw [Ens.toL, lk, if_pos rfl]
  | .cons t y ys, i + 1, s, x, h, hn => by
    rw [Ens.toL, lk, if_neg (hn 0 t y (by omega) rfl)]
    exact lk_get ys i s x (by simpa [Ens.get?] using h) (fun j u z hj hu => hn (j + 1) u z (by omega) (by rw [Ens.get?]; exact hu))
theorem lk_no : ∀ (l : Ens) (s : ByteArray), (∀ j t y, l.get? j = some (t, y) → t ≠ s) → lk l.toL s = none
  | .nil, s, _ => rfl
  | .cons t y ys, s, hn => by
    rw [Ens.toL, lk, if_neg (hn 0 t y rfl)]
    exact lk_no ys s (fun j u z hu => hn (j + 1) u z (by rw [Ens.get?]; exact hu))
set_option maxHeartbeats 4000000 in
theorem pGetC (W : Nat) (x : Ob) (key : ByteArray) (S : Nat → Prop) (w : World) (c0 c1 c2 c3 c4 : Value) (hx : ObR w S x c0 c1 c2 c3 c4) (hS : ∀ g, S g → g < w.heap.size) (hW : wdE W (keyedE x)) (hK : W * htE (keyedE x) ≤ 1000000000) (hlen : (keyedE x).len ≤ 1000000000) :
    Calls Try.prog 35 #[.agg #[c0, c1, c2, c3, c4], .string key] w (CpP w (getF x key)) := by
  obtain ⟨A, c, hv, hu⟩ := used_D hx
  have hg : getF x key = (lk (keyedE x).toL key).getD zeroOb := rfl
  rw [hg]
  obtain ⟨E, hE⟩ : ∃ E, keyedE x = E := ⟨_, rfl⟩
  rw [hE] at hv hu hW hK hlen ⊢
  have a1 := (Below.refl w.heap.size w).alloc (Nat.le_refl _) (.cells #[c0, c1, c2, c3, c4] 27)
  have n1 := heap_alloc_new w (.cells #[c0, c1, c2, c3, c4] 27)
  have z1 : (w.alloc (.cells #[c0, c1, c2, c3, c4] 27)).heap.size = w.heap.size + 1 := by simp
  obtain ⟨W1, hW1⟩ : ∃ W1, w.alloc (.cells #[c0, c1, c2, c3, c4] 27) = W1 := ⟨_, rfl⟩
  rw [hW1] at a1 n1 z1
  have a2 := (Below.refl W1.heap.size W1).alloc (Nat.le_refl _) (.cells #[.int .i64 0, .int .i64 0, .slice none 0 0, .slice none 0 0, .slice none 0 0] 27)
  have n2 := heap_alloc_new W1 (.cells #[.int .i64 0, .int .i64 0, .slice none 0 0, .slice none 0 0, .slice none 0 0] 27)
  have z2 : (W1.alloc (.cells #[.int .i64 0, .int .i64 0, .slice none 0 0, .slice none 0 0, .slice none 0 0] 27)).heap.size = w.heap.size + 2 := by simp; omega
  obtain ⟨W2, hW2⟩ : ∃ W2, W1.alloc (.cells #[.int .i64 0, .int .i64 0, .slice none 0 0, .slice none 0 0, .slice none 0 0] 27) = W2 := ⟨_, rfl⟩
  rw [hW2] at a2 n2 z2
  rw [z1] at n2
  have e1 := (a2.block w.heap.size (by omega)).trans n1
  have lo := a1.trans (a2.mono (by omega))
  have k0 : W2.cell? ⟨w.heap.size, 0, none⟩ = some c0 := cell_of_row _ _ 0 _ _ (0, 0) e1
  have k1 : W2.cell? ⟨w.heap.size, 1, none⟩ = some c1 := cell_of_row _ _ 1 _ _ (0, 0) e1
  have k2 : W2.cell? ⟨w.heap.size, 2, none⟩ = some c2 := cell_of_row _ _ 2 _ _ (0, 0) e1
  have k3 : W2.cell? ⟨w.heap.size, 3, none⟩ = some c3 := cell_of_row _ _ 3 _ _ (0, 0) e1
  have k4 : W2.cell? ⟨w.heap.size, 4, none⟩ = some c4 := cell_of_row _ _ 4 _ _ (0, 0) e1
  have HN2 := Lib.hid n2
  have HLO := Lib.hid lo
  have HZ2 := Lib.hid z2
  have HZ1 := Lib.hid z1
  have HW1 := Lib.hid hW1
  have HW2 := Lib.hid hW2
  have HU := Lib.hid (hu W2)
  have HV := Lib.hid hv
  have HS := Lib.hid hS
  have HWD := Lib.hid hW
  have HKK := Lib.hid hK
  obtain ⟨N, hN⟩ : ∃ N, E.len = N := ⟨_, rfl⟩
  rw [hN] at HU hlen
  have HN := Lib.hid hN
  clear a1 a2 n1 n2 z1 z2 e1 lo hW1 hW2 hx hS hW hK hu hv hg hE hN
  have hfd : ∀ (v0 v1 v2 v3 v4 : Value) (Wx : World), (Instr.field 27 (.agg #[v0, v1, v2, v3, v4]) 4).run Try.prog Wx = .ok v4 Wx := fun _ _ _ _ _ _ => by kernel_rfl
  go_enter Try.func35, Try.ntmps35
  go_upto_region 1 with fail
  rw [HW1.out, HW2.out]
  go_wp2_with (go_at_call 56; (with_reducible refine HU.out.mono ?_); (rintro r w3 ⟨⟨k0', n0', A20, m20, c20, A30, m30, c30, rfl⟩, hb3⟩); have HB3 := Lib.hid (HLO.out.trans (hb3.mono HLO.out.size)); have HN3 := Lib.hid (blk_keep9 hb3 HN2.out); clear hb3 HU k0 k1 k2 k3 k4)
  go_loopw [11] (fun iv wr => ∃ i : Nat, i ≤ N ∧ iv = .int .i64 i ∧ Hid (Below w.heap.size w wr) ∧ Hid (wr.heap[w.heap.size + 1]? = some (.cells #[.int .i64 0, .int .i64 0, .slice none 0 0, .slice none 0 0, .slice none 0 0] 27 (0, 0))) ∧ Hid (∀ j t y, j < i → E.get? j = some (t, y) → t ≠ key)) (fun iv _ => N - (intOf iv).toNat)
  case atStart => exact ⟨0, Nat.zero_le _, rfl, HB3, HN3, Lib.hid (fun j t y h => by omega)⟩
  case round =>
    clear HB3 HN3
    obtain ⟨i, hi, rfl, HB3, HN3, HNO⟩ := hrel
    by_cases hlt : i < N
    · have hlz : (i : Int) < (N : Int) := by omega
      obtain ⟨sy, y, hy⟩ := E.get_some i (by rw [HN.out]; exact hlt)
      obtain ⟨g, o, eA, hg, hobs⟩ := HV.out.2 (by rw [HN.out]; omega)
      subst eA
      obtain ⟨d0, d1, d2, d3, d4, ks, q0, q1, q2, q3, q4, hyr⟩ := hobs.get E g o i sy y hy
      have hgw : g < w.heap.size := HS.out g hg
      obtain ⟨k9, n9, A29, m29, c29, A39, m39, c39, A49, m49, c49, rfl, rfl, rfl, rfl, rfl⟩ := hyr.form
      have e := fun j => World.cell?_of_block (a := ⟨g, j, none⟩) (HB3.out.block g hgw)
      have x0 := (e _).trans ks
      have x1 := (e _).trans q0
      have x2 := (e _).trans q1
      have x3 := (e _).trans q2
      have x4 := (e _).trans q3
      have x5 := (e _).trans q4
      have HY := Lib.hid hy
      have HYR := Lib.hid hyr
      have hb4 := (Below.refl wr.heap.size wr).alloc (Nat.le_refl _) (.cells #[.string sy, .int .i64 k9, .int .i64 n9, .slice A29 m29 c29, .slice A39 m39 c39, .slice A49 m49 c49] 32)
      have hn4 := heap_alloc_new wr (.cells #[.string sy, .int .i64 k9, .int .i64 n9, .slice A29 m29 c29, .slice A39 m39 c39, .slice A49 m49 c49] 32)
      obtain ⟨W4, hW4⟩ : ∃ W4, wr.alloc (.cells #[.string sy, .int .i64 k9, .int .i64 n9, .slice A29 m29 c29, .slice A39 m39 c39, .slice A49 m49 c49] 32) = W4 := ⟨_, rfl⟩
      rw [hW4] at hb4 hn4
      have HB4 := Lib.hid (HB3.out.trans (hb4.mono HB3.out.size))
      have HN4 := Lib.hid (blk_keep9 hb4 HN3.out)
      have HM4 := Lib.hid hn4
      have HW4 := Lib.hid hW4
      clear hy hobs hg hgw ks q0 q1 q2 q3 q4 hyr e hb4 hn4 hW4
      go_upto_region 4 with fail
      rw [HW4.out]
      clear x0 x1 x2 x3 x4 x5
      have y0 : W4.cell? ⟨wr.heap.size, 0, none⟩ = some (.string sy) := cell_of_row _ _ 0 _ _ (0, 0) HM4.out
      have y1 : W4.cell? ⟨wr.heap.size, 1, none⟩ = some (.int .i64 k9) := cell_of_row _ _ 1 _ _ (0, 0) HM4.out
      have y2 : W4.cell? ⟨wr.heap.size, 2, none⟩ = some (.int .i64 n9) := cell_of_row _ _ 2 _ _ (0, 0) HM4.out
      have y3 : W4.cell? ⟨wr.heap.size, 3, none⟩ = some (.slice A29 m29 c29) := cell_of_row _ _ 3 _ _ (0, 0) HM4.out
      have y4 : W4.cell? ⟨wr.heap.size, 4, none⟩ = some (.slice A39 m39 c39) := cell_of_row _ _ 4 _ _ (0, 0) HM4.out
      have y5 : W4.cell? ⟨wr.heap.size, 5, none⟩ = some (.slice A49 m49 c49) := cell_of_row _ _ 5 _ _ (0, 0) HM4.out
      by_cases hk : sy = key
      · have hbe : (sy.toList == key.toList) = true := by rw [hk]; simp
        have hlk := lk_get E i sy y HY.out (fun j t z hj hz => by rw [hk]; exact HNO.out j t z hj hz)
        rw [hk] at hlk
        have HLK := Lib.hid hlk
        have HCP := Lib.hid (pCopyC 1000000000 W y (wdE_get W E i sy y HWD.out HY.out) (Nat.le_trans (Nat.mul_le_mul_left W (htE_get E i sy y HY.out)) HKK.out) (Nat.le_refl _) S W4 _ _ _ _ _ (ObR.keep (fun b hb => HB4.out.block b (HS.out b hb)) (fun _ h => h) y HYR.out) (fun b hb => Nat.lt_of_lt_of_le (HS.out b hb) HB4.out.size))
        clear hlk hk
        go_wp2_with (go_at_call 21; (with_reducible refine HCP.out.mono ?_); (rintro r w5 ⟨d0, d1, d2, d3, d4, rfl, hx5, hb5⟩); (obtain ⟨l9, p9, B29, s29, t29, B39, s39, t39, B49, s49, t49, rfl, rfl, rfl, rfl, rfl⟩ := hx5.form); have HX5 := Lib.hid hx5; have HN5 := Lib.hid (blk_keep9 hb5 HN4.out); have HB5 := Lib.hid (HB4.out.trans (hb5.mono HB4.out.size)); (obtain ⟨r0, r1, r2, r3, r4, r5⟩ := zero_cells HN5.out); clear hx5 hb5 HCP y0 y1 y2 y3 y4 y5)
        refine bodyPost_ret (results_cell_row rfl _ _ (w.heap.size + 1) 27 _ (0, 0) _ rfl (set5_row HN5.out) Try.underlying27 rfl (by kernel_rfl)) rfl ?_
        have hlt9 := row_lt _ _ _ HN4.out
        rw [HLK.out]
        exact ⟨_, _, _, _, _, rfl, ObR.keep (fun b hb => heap_set5 (by have := hb.1; omega)) (fun b hb => ⟨by have := hb.1; have := HB4.out.size; omega, by rw [size_set5]; exact hb.2⟩) _ HX5.out, below_set5 HB5.out (Nat.le_succ _)⟩
      · have hbe : (sy.toList == key.toList) = false := str_ne (fun e => hk e)
        have HNO2 : Hid (∀ j t z, j < i + 1 → E.get? j = some (t, z) → t ≠ key) := Lib.hid (fun j t z hj hz => by
          by_cases hji : j < i
          · exact HNO.out j t z hji hz
          · obtain rfl : j = i := by omega
            rw [HY.out] at hz
            injection hz with hz
            injection hz with hz1 hz2
            rw [← hz1]; exact hk)
        clear hk
        go_wp2_with fail
        go_roundw
        case rel => exact ⟨i + 1, by omega, by go_num, HB4, HN4, HNO2⟩
        case measure => simp [intOf]; omega
    · obtain rfl : N = i := by omega
      have hlk := lk_no E key (fun j t z hz => by
        have hj : j < N := by
          rcases Nat.lt_or_ge j N with h | h
          · exact h
          · exfalso
            rw [Ens.get_none E j (by rw [HN.out]; exact h)] at hz
            cases hz
        exact HNO.out j t z hj hz)
      have HLK := Lib.hid hlk
      clear hlk
      obtain ⟨r0, r1, r2, r3, r4, r5⟩ := zero_cells HN3.out
      go_wp2_with (go_at_call 37; refine (pNone0 _).mono ?_; (rintro r w5 ⟨rfl, hb5⟩); have HN5 := Lib.hid (blk_keep9 hb5 HN3.out); have HB5 := Lib.hid (HB3.out.trans (hb5.mono HB3.out.size)); clear r0 r1 r2 r3 r4 r5; (obtain ⟨r0, r1, r2, r3, r4, r5⟩ := zero_cells HN5.out); clear hb5)
      refine bodyPost_ret (results_cell_row rfl _ _ (w.heap.size + 1) 27 _ (0, 0) _ rfl (set5_row HN5.out) Try.underlying27 rfl (by kernel_rfl)) rfl ?_
      rw [HLK.out]
      exact ⟨_, _, _, _, _, rfl, ObR.plain (by omega) (by omega) (bytS_nil _ _), below_set5 HB5.out (Nat.le_succ _)⟩
end

section
open Go.RowKit
set_option linter.unusedVariables false
set_option maxRecDepth 100000
theorem Obs.nil_of {l : Obs} (h : l.len = 0) : l = .nil := by
  cases l with
  | nil => rfl
  | cons x xs => simp [Obs.len] at h
theorem Ens.nil_of {l : Ens} (h : l.len = 0) : l = .nil := by
  cases l with
  | nil => rfl
  | cons s x xs => simp [Ens.len] at h
theorem may_parts {k n : Int} {b : List Int} {l : Obs} {d : Ens} {e : Int} (h : mayO (.mk k n b l d) e = true) : (0 ≤ k ∧ k ≤ 9) ∧ (l = .nil ∨ mayL l e = true) ∧ (d = .nil ∨ mayE d none e = true) ∧ (l = .nil ∨ d = .nil) := by
  rw [mayO] at h
  by_cases hb : badF k b.length l.len d.len = true
  · rw [if_pos hb] at h; cases h
  rw [if_neg hb] at h
  have hl : l = .nil ∨ k = 6 := by
    rcases Nat.eq_zero_or_pos l.len with h0 | h0
    · exact .inl (Obs.nil_of h0)
    · refine .inr (Classical.byContradiction fun hk => hb ?_)
      unfold badF; exact decide_eq_true (.inl ⟨h0, hk⟩)
  have hd : d = .nil ∨ k = 7 ∨ k = 8 := by
    rcases Nat.eq_zero_or_pos d.len with h0 | h0
    · exact .inl (Ens.nil_of h0)
    · refine .inr (Classical.byContradiction fun hk => hb ?_)
      unfold badF; exact decide_eq_true (.inr (.inl ⟨h0, fun e => hk (.inl e), fun e => hk (.inr e)⟩))
  by_cases h6 : k = 6
  · subst h6
    have hd : d = .nil := by rcases hd with h | h | h; exact h; omega; omega
    by_cases hn : n = 0
    · simp [hn] at h
      exact ⟨by omega, .inr h.1, .inl hd, .inr hd⟩
    · simp [hn] at h
  · have hl : l = .nil := hl.resolve_right h6
    by_cases h78 : k = 7 ∨ k = 8
    · have h1 : ¬ k = 1 := by omega
      have h2 : ¬ k = 2 := by omega
      have h3 : ¬ k = 3 := by omega
      have h9 : ¬ k = 9 := by omega
      have h0 : ¬ k = 0 := by omega
      have h4 : ¬ k = 4 := by omega
      have h5 : ¬ k = 5 := by omega
      rw [if_neg h1, if_neg h2, if_neg h3, if_neg h9] at h
      by_cases hn : n ≠ 0
      · rw [if_pos hn] at h; cases h
      rw [if_neg hn, if_neg h0, if_neg h4, if_neg h5, if_neg h6, if_pos h78] at h
      by_cases hx : e < 1 ∨ 16777216 < b.length
      · rw [if_pos hx] at h; cases h
      rw [if_neg hx] at h
      exact ⟨by omega, .inl hl, .inr h, .inl hl⟩
    · have hd : d = .nil := by rcases hd with h | h; exact h; exact absurd h h78
      refine ⟨?_, .inl hl, .inl hd, .inl hl⟩
      by_cases h1 : k = 1
      · omega
      by_cases h2 : k = 2
      · omega
      by_cases h3 : k = 3
      · omega
      by_cases h9 : k = 9
      · omega
      by_cases h0 : k = 0
      · omega
      by_cases h4 : k = 4
      · omega
      by_cases h5 : k = 5
      · omega
      rw [if_neg h1, if_neg h2, if_neg h3, if_neg h9] at h
      by_cases hn : n ≠ 0
      · rw [if_pos hn] at h; cases h
      rw [if_neg hn, if_neg h0, if_neg h4, if_neg h5, if_neg h6, if_neg h78] at h
      cases h
theorem may_kind {x : Ob} {e : Int} (h : mayO x e = true) : 0 ≤ x.kind ∧ x.kind ≤ 9 := by
  obtain ⟨k, n, b, l, d⟩ := x
  exact (may_parts h).1
end

section
open Go.RowKit Go.Sort
set_option linter.unusedVariables false
set_option maxRecDepth 100000
theorem row5_cells {W : World} {g : Nat} {z0 z1 z2 z3 z4 : Value} {T : TypeId} (hh : W.heap[g]? = some (.cells #[z0, z1, z2, z3, z4] T (0, 0))) :
    W.cell? ⟨g, 0, none⟩ = some z0 ∧ W.cell? ⟨g, 1, none⟩ = some z1 ∧ W.cell? ⟨g, 2, none⟩ = some z2 ∧ W.cell? ⟨g, 3, none⟩ = some z3 ∧ W.cell? ⟨g, 4, none⟩ = some z4 ∧ (∀ j, W.frozen? ⟨g, j, none⟩ = false) :=
  ⟨cell_of_row _ _ 0 _ _ (0, 0) hh, cell_of_row _ _ 1 _ _ (0, 0) hh, cell_of_row _ _ 2 _ _ (0, 0) hh, cell_of_row _ _ 3 _ _ (0, 0) hh, cell_of_row _ _ 4 _ _ (0, 0) hh, fun j => by simp [World.frozen?, hh]⟩
end
end Go.Proofs.Ytdkmomdioiipjaa
