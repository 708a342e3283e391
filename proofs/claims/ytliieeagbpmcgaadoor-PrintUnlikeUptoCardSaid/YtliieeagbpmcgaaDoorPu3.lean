/- Contracts of functions that the law calls, and what they lean on (a part). -/
import Derived.Outline
import Derived.LoopTactic
import Derived.Lib.SlFresh
import Derived.OwnWalk
import Derived.Maps.AppendAt
import Derived.Lib.AppendZerosOnto
import Derived.Lib.SliceRun
import Derived.Lib.Walk
import Derived.Test.YtliieeagbpmcgaaDoorPu1
namespace Go.Proofs.YtliieeagbpmcgaaDoor
section
open Go.RowKit
set_option linter.unusedVariables false
set_option maxRecDepth 100000
theorem info5 : (Tryd.prog.info? 5).map (fun i => (i.zero, i.size, i.bytes)) = some (some (.int .u8 0), 1, 1) := by kernel_rfl
/-- v is a slice of the call's own, in a block from 'base' on, that holds the p bytes zs. -/
structure Mine (w : World) (base : Nat) (v : Value) (p : Nat) (zs : List Int) : Prop where
  own : w.ownsRow base 5 1 v p (zs.map (Value.int .u8))
  rng : ∀ z ∈ zs, 0 ≤ z ∧ z < 256
section
variable {w w' : World} {base p : Nat} {v : Value} {zs : List Int}
theorem Mine.len (h : Mine w base v p zs) : zs.length = p := by have := h.own.1; simp at this; exact this
theorem Mine.nil (w : World) (base : Nat) : Mine w base (.slice none 0 0) 0 [] := ⟨⟨rfl, .inl ⟨rfl, rfl⟩⟩, fun _ h => by cases h⟩
theorem Mine.drewN (h : Mine w base v p zs) (k : Nat) : Mine (w.drewN k) base v p zs := ⟨h.own, h.rng⟩
theorem Mine.byt (h : Mine w base v p zs) : ∃ A c, v = .slice A p c ∧ Byt w w.heap.size A p c zs := by
  rcases h.own.2 with ⟨rfl, h0⟩ | ⟨b, cap, cur, rfl, hb, hh, hnc, _⟩
  · subst h0
    exact ⟨none, 0, rfl, h.len, Nat.le_refl _, h.rng, fun h => absurd h (by omega)⟩
  · refine ⟨some ⟨b, 0, none⟩, cap, rfl, h.len, hnc, h.rng, fun h0 => ?_⟩
    have hlt : b < w.heap.size := by
      rcases Nat.lt_or_ge b w.heap.size with hlt | hge
      · exact hlt
      · rw [Array.getElem?_eq_none hge] at hh; cases hh
    refine ⟨b, 0, rfl, hlt, fun i hi => ?_⟩
    have hci := h.own.cells (g := b) rfl i (.int .u8 (zs.getD i 0)) (by simp [List.getD, h.len, hi])
    have e2 : (⟨b, 0, none⟩ : Addr).add i = ⟨b, 0 + i, none⟩ := by unfold Addr.add; split <;> simp_all
    rw [← e2]; exact hci
/-- Beyond what was there, the row of v alone may have changed. -/
theorem Mine.append (h : Mine w base v p zs) {B m c : Nat} {A : Option Addr} {ys : List Int} (hy : Byt w B A m c ys) (ty : TypeId) (hb : p + m ≤ 140737488355328) (hbase : base ≤ w.heap.size) :
    ∃ v' w', (Builtin.append_ #[22, 22] ty #[v, .slice A m c]).run Tryd.prog w = .ok v' w' ∧ Mine w' base v' (p + m) (zs ++ ys) ∧ Below base w w' := by
  obtain ⟨i0, hi, hz0, hz1, hz2⟩ := info_parts info5
  have hrng : ∀ z ∈ zs ++ ys, 0 ≤ z ∧ z < 256 := fun z hz => by
    rcases List.mem_append.1 hz with hz | hz
    · exact h.rng z hz
    · exact hy.rng z hz
  have key : m = 0 ∨ 0 < m := by omega
  rcases A with _ | a
  · have h0 : m = 0 := by
      rcases key with h0 | h0
      · exact h0
      · obtain ⟨b, o, e, _⟩ := hy.cell h0
        cases e
    subst h0
    have hn : ys = [] := List.eq_nil_of_length_eq_zero hy.len
    subst hn
    refine ⟨v, w, ?_, by simpa using h, Below.refl _ _⟩
    rcases h.own.2 with ⟨rfl, _⟩ | ⟨b, cap, cur, rfl, _, _, hnc, _⟩
    · simp [Builtin.append_, run_underlying Tryd.underlying22, sizeOf, typeInfo, hi, Builtin.lenOf, Builtin.firstCells]
    · simp [Builtin.append_, run_underlying Tryd.underlying22, sizeOf, typeInfo, hi, Builtin.lenOf, Builtin.firstCells, hnc, storeCells]
  · have hcell : ∀ j u, (ys.map (Value.int .u8))[j]? = some u → w.cell? (a.add j) = some u := by
      intro j u hj
      have hjl : j < ys.length := by have := (List.getElem?_eq_some_iff.1 hj).1; simpa using this
      have hyl := hy.len
      obtain ⟨b, o, e, _, hc⟩ := hy.cell (by omega)
      injection e with e
      subst e
      have e2 : (⟨b, o, none⟩ : Addr).add j = ⟨b, o + j, none⟩ := by unfold Addr.add; split <;> simp_all
      rw [e2, hc j (by omega), ← hj]
      simp [List.getD, hjl]
    obtain ⟨v', w', hr, hown, hgr, _, hat⟩ := run_append_own_at (P := Tryd.prog) w base 22 ty 5 i0 _ 1 1 Tryd.underlying22 hi hz0 hz1 hz2 rfl (by omega) v p _ h.own a m c (ys.map (Value.int .u8))
      (by simp [hy.len]) hcell (fun u hu => by obtain ⟨x, _, rfl⟩ := List.mem_map.1 hu; rfl) (by simp only [maxLen]; omega) (by omega) hbase
    refine ⟨v', w', hr, ⟨by simpa using hown, hrng⟩, hgr.os, hgr.tape, hgr.output, hgr.size, fun k hk => hgr.block k (Nat.lt_of_lt_of_le hk hbase) (fun e => ?_)⟩
    rcases h.own.2 with ⟨rfl, _⟩ | ⟨b, cap, cur, rfl, hb, _⟩
    · simp [Value.ownBlock] at e
    · simp [Value.ownBlock] at e
      omega
end
/-- 'b[:h]'. -/
theorem run_cut0 {P : Program} (W : World) (t e : TypeId) (ht : P.underlying t = some (.slice e)) (hz : ∀ w, (Go.sizeOf e).run P w = .ok 1 w) (A : Option Addr) (len cap h : Nat) (hh : h ≤ cap) :
    (Instr.slice t (.slice A len cap) none (some (.int .i64 (h : Int))) none).run P W = .ok (.slice (cutA A cap 0) h cap) W := by
  have ht' : P.underlying t = some (.slice (P.elem t)) := by simp [Program.elem, ht]
  have he : P.elem t = e := by simp [Program.elem, ht]
  rw [run_slice_h W t _ _ _ ht' .i64 _ (by omega) (by omega), he, hz]
  simp [Result.andThen, sliced, cutA]
/-- The slice '.slice A n c' holds n slices of bytes, all below block B. -/
structure Parts (w : World) (B : Nat) (A : Option Addr) (n : Nat) (As : Nat → Option Addr) (Ns Cs : Nat → Nat) (Z : Nat → List Int) : Prop where
  cell : 0 < n → ∃ b o, A = some ⟨b, o, none⟩ ∧ b < B ∧ ∀ i, i < n → w.cell? ⟨b, o + i, none⟩ = some (.slice (As i) (Ns i) (Cs i))
  byt : ∀ i, i < n → Byt w B (As i) (Ns i) (Cs i) (Z i)
end

section
open Go.RowKit
set_option linter.unusedVariables false
set_option maxRecDepth 100000
mutual
/-- An object: its kind, its number, its bytes, its items, its entries. -/
inductive Ob where
  | mk (k n : Int) (b : List Int) (l : Obs) (d : Ens) : Ob
inductive Obs where
  | nil : Obs
  | cons (x : Ob) (xs : Obs) : Obs
inductive Ens where
  | nil : Ens
  | cons (s : ByteArray) (x : Ob) (xs : Ens) : Ens
end
def Obs.len : Obs → Nat
  | .nil => 0
  | .cons _ xs => xs.len + 1
def Ens.len : Ens → Nat
  | .nil => 0
  | .cons _ _ xs => xs.len + 1
def Obs.get? : Obs → Nat → Option Ob
  | .nil, _ => none
  | .cons x _, 0 => some x
  | .cons _ xs, i + 1 => xs.get? i
def Ens.get? : Ens → Nat → Option (ByteArray × Ob)
  | .nil, _ => none
  | .cons s x _, 0 => some (s, x)
  | .cons _ _ xs, i + 1 => xs.get? i
mutual
def Ob.sz : Ob → Nat
  | .mk _ _ _ l d => 1 + l.sz + d.sz
def Obs.sz : Obs → Nat
  | .nil => 0
  | .cons x xs => x.sz + xs.sz
def Ens.sz : Ens → Nat
  | .nil => 0
  | .cons _ x xs => x.sz + xs.sz
end
theorem Obs.get_sz : ∀ (l : Obs) (i : Nat) (x : Ob), l.get? i = some x → x.sz ≤ l.sz
  | .nil, i, x, h => by simp [Obs.get?] at h
  | .cons y xs, 0, x, h => by
    simp [Obs.get?] at h; subst h; rw [Obs.sz]; omega
  | .cons y xs, i + 1, x, h => by
    have := Obs.get_sz xs i x (by simpa [Obs.get?] using h)
    rw [Obs.sz]; omega
theorem Ens.get_sz : ∀ (l : Ens) (i : Nat) (s : ByteArray) (x : Ob), l.get? i = some (s, x) → x.sz ≤ l.sz
  | .nil, i, s, x, h => by simp [Ens.get?] at h
  | .cons t y xs, 0, s, x, h => by
    simp [Ens.get?] at h; obtain ⟨rfl, rfl⟩ := h; rw [Ens.sz]; omega
  | .cons t y xs, i + 1, s, x, h => by
    have := Ens.get_sz xs i s x (by simpa [Ens.get?] using h)
    rw [Ens.sz]; omega
theorem Obs.get_some : ∀ (l : Obs) (i : Nat), i < l.len → ∃ x, l.get? i = some x
  | .nil, i, h => by simp [Obs.len] at h
  | .cons y xs, 0, h => ⟨y, rfl⟩
  | .cons y xs, i + 1, h => by
    have := Obs.get_some xs i (by simpa [Obs.len] using h)
    simpa [Obs.get?] using this
theorem Ens.get_some : ∀ (l : Ens) (i : Nat), i < l.len → ∃ s x, l.get? i = some (s, x)
  | .nil, i, h => by simp [Ens.len] at h
  | .cons t y xs, 0, h => ⟨t, y, rfl⟩
  | .cons t y xs, i + 1, h => by
    have := Ens.get_some xs i (by simpa [Ens.len] using h)
    simpa [Ens.get?] using this
/-- Bytes that lie in blocks of a kind. -/
def BytS (w : World) (S : Nat → Prop) (A : Option Addr) (n c : Nat) (zs : List Int) : Prop :=
  zs.length = n ∧ (n ≤ c ∧ n ≤ 9223372036854775807) ∧ (∀ z ∈ zs, 0 ≤ z ∧ z < 256) ∧ (0 < n → ∃ g o, A = some ⟨g, o, none⟩ ∧ S g ∧ ∀ i, i < n → w.cell? ⟨g, o + i, none⟩ = some (.int .u8 (zs.getD i 0)))
mutual
/-- Five cells read as an object, in blocks of a kind. -/
def ObR (w : World) (S : Nat → Prop) : Ob → Value → Value → Value → Value → Value → Prop
  | .mk k n b l d, c0, c1, c2, c3, c4 => c0 = .int .i64 k ∧ c1 = .int .i64 n ∧ (-9223372036854775808 ≤ k ∧ k ≤ 9223372036854775807) ∧ (-9223372036854775808 ≤ n ∧ n ≤ 9223372036854775807) ∧
    (∃ A m c, c2 = .slice A m c ∧ BytS w S A m c b) ∧
    (∃ A c, c3 = .slice A l.len c ∧ (l.len ≤ c ∧ c ≤ 9223372036854775807) ∧ (0 < l.len → ∃ g o, A = some ⟨g, o, none⟩ ∧ S g ∧ ObsR w S l g o)) ∧
    (∃ A c, c4 = .slice A d.len c ∧ (d.len ≤ c ∧ c ≤ 9223372036854775807) ∧ (0 < d.len → ∃ g o, A = some ⟨g, o, none⟩ ∧ S g ∧ EnsR w S d g o))
def ObsR (w : World) (S : Nat → Prop) : Obs → Nat → Nat → Prop
  | .nil, _, _ => True
  | .cons x xs, g, o => (∃ c0 c1 c2 c3 c4, w.cell? ⟨g, o, none⟩ = some c0 ∧ w.cell? ⟨g, o + 1, none⟩ = some c1 ∧ w.cell? ⟨g, o + 2, none⟩ = some c2 ∧ w.cell? ⟨g, o + 3, none⟩ = some c3 ∧ w.cell? ⟨g, o + 4, none⟩ = some c4 ∧ ObR w S x c0 c1 c2 c3 c4) ∧ ObsR w S xs g (o + 5)
def EnsR (w : World) (S : Nat → Prop) : Ens → Nat → Nat → Prop
  | .nil, _, _ => True
  | .cons s x xs, g, o => (∃ c0 c1 c2 c3 c4, w.cell? ⟨g, o, none⟩ = some (.string s) ∧ w.cell? ⟨g, o + 1, none⟩ = some c0 ∧ w.cell? ⟨g, o + 2, none⟩ = some c1 ∧ w.cell? ⟨g, o + 3, none⟩ = some c2 ∧ w.cell? ⟨g, o + 4, none⟩ = some c3 ∧ w.cell? ⟨g, o + 5, none⟩ = some c4 ∧ ObR w S x c0 c1 c2 c3 c4) ∧ EnsR w S xs g (o + 6)
end
section
variable {w w' : World} {S S' : Nat → Prop}
theorem BytS.keep {A : Option Addr} {n c : Nat} {zs : List Int} (h : BytS w S A n c zs) (hb : ∀ g, S g → w'.heap[g]? = w.heap[g]?) (hS : ∀ g, S g → S' g) : BytS w' S' A n c zs := by
  obtain ⟨h1, h2, h3, h4⟩ := h
  refine ⟨h1, h2, h3, fun hn => ?_⟩
  obtain ⟨g, o, e, hg, hc⟩ := h4 hn
  exact ⟨g, o, e, hS g hg, fun i hi => (World.cell?_of_block (hb g hg)).trans (hc i hi)⟩
mutual
theorem ObR.keep (hb : ∀ g, S g → w'.heap[g]? = w.heap[g]?) (hS : ∀ g, S g → S' g) : ∀ (x : Ob) {c0 c1 c2 c3 c4 : Value}, ObR w S x c0 c1 c2 c3 c4 → ObR w' S' x c0 c1 c2 c3 c4
  | .mk k n b l d, c0, c1, c2, c3, c4, h => by
    unfold ObR at h ⊢
    obtain ⟨h0, h1, hk, hn, ⟨A, m, c, e2, h2⟩, ⟨AL, cL, e3, h3, hl⟩, ⟨AD, cD, e4, h4, hd⟩⟩ := h
    refine ⟨h0, h1, hk, hn, ⟨A, m, c, e2, h2.keep hb hS⟩, ⟨AL, cL, e3, h3, fun hp => ?_⟩, ⟨AD, cD, e4, h4, fun hp => ?_⟩⟩
    · obtain ⟨g, o, e, hg, hx⟩ := hl hp
      exact ⟨g, o, e, hS g hg, ObsR.keep hb hS l g o (hS g hg) hg hx⟩
    · obtain ⟨g, o, e, hg, hx⟩ := hd hp
      exact ⟨g, o, e, hS g hg, EnsR.keep hb hS d g o (hS g hg) hg hx⟩
theorem ObsR.keep (hb : ∀ g, S g → w'.heap[g]? = w.heap[g]?) (hS : ∀ g, S g → S' g) : ∀ (l : Obs) (g o : Nat), S' g → S g → ObsR w S l g o → ObsR w' S' l g o
  | .nil, g, o, _, _, h => by unfold ObsR; trivial
  | .cons x xs, g, o, h', hg, h => by
    unfold ObsR at h ⊢
    obtain ⟨⟨c0, c1, c2, c3, c4, k0, k1, k2, k3, k4, hx⟩, hxs⟩ := h
    have e := fun i => World.cell?_of_block (a := ⟨g, i, none⟩) (hb g hg)
    exact ⟨⟨c0, c1, c2, c3, c4, (e _).trans k0, (e _).trans k1, (e _).trans k2, (e _).trans k3, (e _).trans k4, ObR.keep hb hS x hx⟩, ObsR.keep hb hS xs g (o + 5) h' hg hxs⟩
theorem EnsR.keep (hb : ∀ g, S g → w'.heap[g]? = w.heap[g]?) (hS : ∀ g, S g → S' g) : ∀ (l : Ens) (g o : Nat), S' g → S g → EnsR w S l g o → EnsR w' S' l g o
  | .nil, g, o, _, _, h => by unfold EnsR; trivial
  | .cons s x xs, g, o, h', hg, h => by
    unfold EnsR at h ⊢
    obtain ⟨⟨c0, c1, c2, c3, c4, ks, k0, k1, k2, k3, k4, hx⟩, hxs⟩ := h
    have e := fun i => World.cell?_of_block (a := ⟨g, i, none⟩) (hb g hg)
    exact ⟨⟨c0, c1, c2, c3, c4, (e _).trans ks, (e _).trans k0, (e _).trans k1, (e _).trans k2, (e _).trans k3, (e _).trans k4, ObR.keep hb hS x hx⟩, EnsR.keep hb hS xs g (o + 6) h' hg hxs⟩
end
theorem ObsR.get : ∀ (l : Obs) (g o i : Nat) (x : Ob), ObsR w S l g o → l.get? i = some x → ∃ c0 c1 c2 c3 c4, w.cell? ⟨g, o + i * 5, none⟩ = some c0 ∧ w.cell? ⟨g, o + i * 5 + 1, none⟩ = some c1 ∧ w.cell? ⟨g, o + i * 5 + 2, none⟩ = some c2 ∧ w.cell? ⟨g, o + i * 5 + 3, none⟩ = some c3 ∧ w.cell? ⟨g, o + i * 5 + 4, none⟩ = some c4 ∧ ObR w S x c0 c1 c2 c3 c4
  | .nil, g, o, i, x, h, hx => by simp [Obs.get?] at hx
  | .cons y xs, g, o, 0, x, h, hx => by
    simp [Obs.get?] at hx
    subst hx
    unfold ObsR at h
    simpa using h.1
  | .cons y xs, g, o, i + 1, x, h, hx => by
    unfold ObsR at h
    have := ObsR.get xs g (o + 5) i x h.2 (by simpa [Obs.get?] using hx)
    rw [show o + 5 + i * 5 = o + (i + 1) * 5 by omega] at this
    exact this
theorem EnsR.get : ∀ (l : Ens) (g o i : Nat) (s : ByteArray) (x : Ob), EnsR w S l g o → l.get? i = some (s, x) → ∃ c0 c1 c2 c3 c4, w.cell? ⟨g, o + i * 6, none⟩ = some (.string s) ∧ w.cell? ⟨g, o + i * 6 + 1, none⟩ = some c0 ∧ w.cell? ⟨g, o + i * 6 + 2, none⟩ = some c1 ∧ w.cell? ⟨g, o + i * 6 + 3, none⟩ = some c2 ∧ w.cell? ⟨g, o + i * 6 + 4, none⟩ = some c3 ∧ w.cell? ⟨g, o + i * 6 + 5, none⟩ = some c4 ∧ ObR w S x c0 c1 c2 c3 c4
  | .nil, g, o, i, s, x, h, hx => by simp [Ens.get?] at hx
  | .cons t y xs, g, o, 0, s, x, h, hx => by
    simp [Ens.get?] at hx
    obtain ⟨rfl, rfl⟩ := hx
    unfold EnsR at h
    simpa using h.1
  | .cons t y xs, g, o, i + 1, s, x, h, hx => by
    unfold EnsR at h
    have := EnsR.get xs g (o + 6) i s x h.2 (by simpa [Ens.get?] using hx)
    rw [show o + 6 + i * 6 = o + (i + 1) * 6 by omega] at this
    exact this
end
def nameZ (zs : List Int) : Bool := if 127 < zs.length then false else zs.all (fun z => decide (z ≠ 0))
def sameZ : List Int → List Int → Bool
  | [], [] => true
  | x :: xs, y :: ys => if x = y then sameZ xs ys else false
  | _, _ => false
theorem sameZ_len : ∀ (a b : List Int), a.length ≠ b.length → sameZ a b = false
  | [], [], h => absurd rfl h
  | [], y :: ys, h => rfl
  | x :: xs, [], h => rfl
  | x :: xs, y :: ys, h => by
    rw [sameZ, sameZ_len xs ys (by simpa using h)]; split <;> rfl
theorem sameZ_eq : ∀ (a b : List Int), sameZ a b = decide (a = b)
  | [], [] => rfl
  | [], y :: ys => rfl
  | x :: xs, [] => rfl
  | x :: xs, y :: ys => by
    rw [sameZ, sameZ_eq xs ys]
    by_cases h : x = y <;> simp [h]
theorem sameC (S S2 : Nat → Prop) (w : World) (A A2 : Option Addr) (n c m c2 : Nat) (zs ys : List Int) (hb : BytS w S A n c zs) (hb2 : BytS w S2 A2 m c2 ys) :
    Calls Tryd.prog 7 #[.slice A n c, .slice A2 m c2] w fun r w' => r = .returned (.bool (sameZ zs ys)) ∧ ∃ q, w' = w.drewN q := by
  obtain ⟨hl, hc, hr, hx⟩ := hb
  obtain ⟨hl2, hc2, hr2, hx2⟩ := hb2
  have HX := Lib.hid hx
  have HL := Lib.hid hl
  have HX2 := Lib.hid hx2
  have HL2 := Lib.hid hl2
  have HRG := Lib.hid hr
  have HRG2 := Lib.hid hr2
  obtain ⟨R, hR⟩ : ∃ R, sameZ zs ys = R := ⟨_, rfl⟩
  rw [hR]
  clear hx hx2 hr hr2
  by_cases h1 : n = m
  · subst h1
    have HR := Lib.hid hR
    clear hl hl2 hR
    go_enter Tryd.func7, Tryd.ntmps7
    go_wp2
    go_loopw [5] (fun iv wr => ∃ i q : Nat, i ≤ n ∧ iv = .int .i64 i ∧ Hid (sameZ (zs.drop i) (ys.drop i) = R) ∧ wr = w.drewN q) (fun iv _ => n - (intOf iv).toNat)
    case atStart => exact ⟨0, 0, Nat.zero_le _, rfl, HR, rfl⟩
    case round =>
      obtain ⟨i, q, hi, rfl, HM, rfl⟩ := hrel
      by_cases hlt : i < n
      · obtain ⟨g, o, rfl, _, hcell⟩ := HX.out (by omega)
        obtain ⟨g2, o2, rfl, _, hcell2⟩ := HX2.out (by omega)
        have hck := hcell i hlt
        have hck2 := hcell2 i hlt
        have hm := HM.out
        rw [drop_getD zs i (by rw [HL.out]; exact hlt), drop_getD ys i (by rw [HL2.out]; exact hlt), sameZ] at hm
        have hz : 0 ≤ zs.getD i 0 ∧ zs.getD i 0 < 256 := HRG.out _ (by rw [List.getD_eq_getElem?_getD, List.getElem?_eq_getElem (by rw [HL.out]; exact hlt)]; exact List.getElem_mem _)
        have hz2 : 0 ≤ ys.getD i 0 ∧ ys.getD i 0 < 256 := HRG2.out _ (by rw [List.getD_eq_getElem?_getD, List.getElem?_eq_getElem (by rw [HL2.out]; exact hlt)]; exact List.getElem_mem _)
        obtain ⟨z, hzz⟩ : ∃ z, zs.getD i 0 = z := ⟨_, rfl⟩
        obtain ⟨y, hyy⟩ : ∃ y, ys.getD i 0 = y := ⟨_, rfl⟩
        rw [hzz] at hck hm hz
        rw [hyy] at hck2 hm hz2
        obtain ⟨z0, z1⟩ := hz
        obtain ⟨y0, y1⟩ := hz2
        have hin : (i : Int) < n := by omega
        by_cases hzy : z = y
        · subst hzy
          rw [if_pos rfl] at hm
          have hM2 := Lib.hid hm
          clear hcell hcell2 hm hzz hyy
          go_wp2_with fail
          go_quiet (fail)
          go_wp2
          go_roundw
          case rel => exact ⟨i + 1, _, by omega, by go_num, hM2, rfl⟩
          case measure => simp [intOf]; omega
        · rw [if_neg hzy] at hm
          subst hm
          have i5 : decide (z = y) = false := decide_eq_false hzy
          clear hcell hcell2 hzz hyy
          go_wp2_with fail
          go_quiet (fail)
          go_wp2
          go_ret
          exact ⟨rfl, _, World.drewN_drewN _ _ _⟩
      · obtain rfl : n = i := by omega
        have hm := HM.out
        rw [List.drop_of_length_le (by rw [HL.out]; omega), List.drop_of_length_le (by rw [HL2.out]; omega), sameZ] at hm
        subst hm
        go_wp2
        go_ret
        exact ⟨rfl, _, rfl⟩
  · have hR0 : R = false := by rw [← hR]; exact sameZ_len _ _ (by omega)
    subst hR0
    have i1' : ¬ (n : Int) = m := by omega
    have i1 : decide (n = m) = false := decide_eq_false h1
    clear hl hl2 hR
    go_enter Tryd.func7, Tryd.ntmps7
    go_wp2
    go_ret
    exact ⟨rfl, 0, rfl⟩
mutual
def sameO : Ob → Ob → Bool
  | .mk k n b l d, .mk k2 n2 b2 l2 d2 =>
    if k = k2 then
      (if k = 1 ∨ k = 2 ∨ k = 3 ∨ k = 9 then decide (n = n2)
      else if k = 4 ∨ k = 5 then sameZ b b2
      else if k = 6 then sameL l l2
      else if k = 7 ∨ k = 8 then (if k = 8 ∧ sameZ b b2 = false then false else sameE d d2)
      else true)
    else false
def sameL : Obs → Obs → Bool
  | .nil, .nil => true
  | .cons x xs, .cons y ys => if sameO x y = true then sameL xs ys else false
  | .nil, .cons _ _ => false
  | .cons _ _, .nil => false
def sameE : Ens → Ens → Bool
  | .nil, .nil => true
  | .cons s x xs, .cons t y ys => if s = t then (if sameO x y = true then sameE xs ys else false) else false
  | .nil, .cons _ _ _ => false
  | .cons _ _ _, .nil => false
end
theorem sameL_len : ∀ (a b : Obs), a.len ≠ b.len → sameL a b = false
  | .nil, .nil, h => absurd rfl h
  | .nil, .cons _ _, _ => by rw [sameL]
  | .cons _ _, .nil, _ => by rw [sameL]
  | .cons x xs, .cons y ys, h => by
    rw [sameL, sameL_len xs ys (by simpa [Obs.len] using h)]; split <;> rfl
theorem sameE_len : ∀ (a b : Ens), a.len ≠ b.len → sameE a b = false
  | .nil, .nil, h => absurd rfl h
  | .nil, .cons _ _ _, _ => by rw [sameE]
  | .cons _ _ _, .nil, _ => by rw [sameE]
  | .cons s x xs, .cons t y ys, h => by
    rw [sameE, sameE_len xs ys (by simpa [Ens.len] using h)]; by_cases h1 : s = t <;> by_cases h2 : sameO x y = true <;> simp [h1, h2]
theorem sameZ_self (a : List Int) : sameZ a a = true := by rw [sameZ_eq]; simp
mutual
theorem sameO_self : ∀ x : Ob, sameO x x = true
  | .mk k n b l d => by
    rw [sameO, if_pos rfl, sameL_self l, sameE_self d, sameZ_self]
    simp
theorem sameL_self : ∀ x : Obs, sameL x x = true
  | .nil => by rw [sameL]
  | .cons x xs => by rw [sameL, sameO_self x, sameL_self xs]; rfl
theorem sameE_self : ∀ x : Ens, sameE x x = true
  | .nil => by rw [sameE]
  | .cons s x xs => by rw [sameE, sameO_self x, sameE_self xs]; simp
end
end
end Go.Proofs.YtliieeagbpmcgaaDoor
