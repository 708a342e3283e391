/- Contracts of functions that the law calls, and what they lean on (a part). -/
import Derived.Sort.Defs
import Derived.Shelf.SlSortCmp.KitK
import Derived.WalkLawsBesides
import Derived.BigRegion
import Derived.Test.YtnlpdnimfaipmaaKn21
namespace Go.Proofs.Ytnlpdnimfaipmaa
section
open Go.RowKit
open Go.RowKit Go.Sort
set_option linter.unusedVariables false
set_option maxRecDepth 100000
def ltS (s t : ByteArray) : Bool := Op.bytesLess s.toList t.toList
section
variable {α : Type} (key : α → ByteArray)
def Srt (l : List α) : Prop := l.Pairwise (fun a b => ltS (key b) (key a) = false)
def Stb (l l' : List α) : Prop := ∀ k, l'.filter (fun a => decide (key a = k)) = l.filter (fun a => decide (key a = k))
variable {key}
theorem Stb.refl (l : List α) : Stb key l l := fun _ => rfl
theorem Stb.trans {a b c : List α} (h1 : Stb key a b) (h2 : Stb key b c) : Stb key a c := fun k => (h2 k).trans (h1 k)
theorem Stb.app {a a' b b' : List α} (h1 : Stb key a a') (h2 : Stb key b b') : Stb key (a ++ b) (a' ++ b') := fun k => by
  rw [List.filter_append, List.filter_append, h1 k, h2 k]
theorem Stb.mem {a a' : List α} (h : Stb key a a') (x : α) : x ∈ a' ↔ x ∈ a := by
  have e := h (key x)
  have h1 : x ∈ a'.filter (fun a => decide (key a = key x)) ↔ x ∈ a' := by simp
  have h2 : x ∈ a.filter (fun b => decide (key b = key x)) ↔ x ∈ a := by simp
  rw [← h1, ← h2, e]
theorem len_parts (p : α → Bool) : ∀ l : List α, l.length = (l.filter p).length + (l.filter (fun a => !p a)).length
  | [] => rfl
  | x :: xs => by
    have := len_parts p xs
    cases h : p x <;> simp [h] <;> omega
theorem Stb.lenN : ∀ (n : Nat) (a a' : List α), a.length ≤ n → Stb key a a' → a'.length = a.length
  | n, [], a', _, h => by
    rcases a' with _ | ⟨x, xs⟩
    · rfl
    · have := (h.mem x).1 (by simp)
      cases this
  | 0, x :: xs, a', hn, h => by simp at hn
  | n + 1, x :: xs, a', hn, h => by
    have h2 : Stb key ((x :: xs).filter (fun a => !decide (key a = key x))) (a'.filter (fun a => !decide (key a = key x))) := fun k => by
      have := h k
      rw [List.filter_filter, List.filter_filter]
      have c : ∀ l : List α, l.filter (fun a => decide (key a = k) && !decide (key a = key x)) = (l.filter (fun a => decide (key a = k))).filter (fun a => !decide (key a = key x)) := fun l => by
        rw [List.filter_filter]; congr 1; funext a; rw [Bool.and_comm]
      rw [c, c, this]
    have h3 := Stb.lenN n _ _ (by
      have : ((x :: xs).filter (fun a => !decide (key a = key x))) = xs.filter (fun a => !decide (key a = key x)) := by simp
      rw [this]
      have := List.length_filter_le (fun a => !decide (key a = key x)) xs
      simp at hn; omega) h2
    rw [len_parts (fun a => decide (key a = key x)) a', len_parts (fun a => decide (key a = key x)) (x :: xs), h (key x), h3]
theorem Stb.len {a a' : List α} (h : Stb key a a') : a'.length = a.length := Stb.lenN _ a a' (Nat.le_refl _) h
theorem Srt.app {A B : List α} : Srt key (A ++ B) ↔ Srt key A ∧ Srt key B ∧ ∀ a ∈ A, ∀ b ∈ B, ltS (key b) (key a) = false := by
  unfold Srt; rw [List.pairwise_append]
theorem Srt.nil : Srt key ([] : List α) := List.Pairwise.nil
theorem Srt.one (x : α) : Srt key [x] := by unfold Srt; simp
theorem Srt.cons {x : α} {B : List α} : Srt key (x :: B) ↔ (∀ b ∈ B, ltS (key b) (key x) = false) ∧ Srt key B := by
  unfold Srt; rw [List.pairwise_cons]
end
/-- An entry as six cells, and the object that it reads as. -/
structure Rw where
  s : ByteArray
  x : Ob
  k : Int
  n : Int
  A2 : Option Addr
  m2 : Nat
  c2 : Nat
  A3 : Option Addr
  m3 : Nat
  c3 : Nat
  A4 : Option Addr
  m4 : Nat
  c4 : Nat
instance : Inhabited Rw := ⟨⟨⟨#[]⟩, .mk 0 0 [] .nil .nil, 0, 0, none, 0, 0, none, 0, 0, none, 0, 0⟩⟩
def encR (r : Rw) : List Value := [.string r.s, .int .i64 r.k, .int .i64 r.n, .slice r.A2 r.m2 r.c2, .slice r.A3 r.m3 r.c3, .slice r.A4 r.m4 r.c4]
/-- A world with draws and new blocks behind it. -/
def Grw (w w' : World) : Prop := ∃ q os, w' = grow (w.drewN q) os
theorem Grw.refl (w : World) : Grw w w := ⟨0, #[], by rw [grow_empty]; rfl⟩
theorem Grw.alloc {w w' : World} (h : Grw w w') (o : Obj) : Grw w (w'.alloc o) := by
  obtain ⟨q, os, rfl⟩ := h
  exact ⟨q, os ++ #[o], by rw [alloc_eq_grow, grow_grow]⟩
theorem Grw.drewN {w w' : World} (h : Grw w w') (n : Nat) : Grw w (w'.drewN n) := by
  obtain ⟨q, os, rfl⟩ := h
  exact ⟨q + n, os, by show grow ((w.drewN q).drewN n) os = _; rw [World.drewN_drewN]⟩
theorem Grw.trans {a b c : World} (h1 : Grw a b) (h2 : Grw b c) : Grw a c := by
  obtain ⟨q, os, rfl⟩ := h1
  obtain ⟨q2, os2, rfl⟩ := h2
  exact ⟨q + q2, os ++ os2, by show grow (grow ((a.drewN q).drewN q2) os) os2 = _; rw [grow_grow, World.drewN_drewN]⟩
theorem Grw.below {w w' : World} (h : Grw w w') : Below w.heap.size w w' := by
  obtain ⟨q, os, rfl⟩ := h
  exact ⟨rfl, rfl, rfl, by rw [size_grow]; exact Nat.le_add_right _ _, fun k hk => heap_grow_old _ os hk⟩
abbrev SW6 (w0 : World) (blk off : Nat) (dk : Array Rw) (W : World) : Prop := SWK encR 6 w0 blk off dk W
abbrev RW6 (w0 : World) (blk off : Nat) (d0 : Array Rw) : Prop := RowK encR 6 w0 blk off d0
theorem SW6.holds {w0 W : World} {blk off : Nat} {d0 dk : Array Rw} (h : SW6 w0 blk off dk W) (R : RW6 w0 blk off d0) (hs : dk.size = d0.size) : HoldsK encR 6 W blk off dk := SWK.holds h R.hblk R.hH hs
theorem SW6.cells {w0 W : World} {blk off : Nat} {d0 dk : Array Rw} (h : SW6 w0 blk off dk W) (R : RW6 w0 blk off d0) (hs : dk.size = d0.size) (i : Nat) (hi : i < dk.size) (x : Rw) (hx : dk[i]! = x) :
    (W.cell? ⟨blk, off + i * 6, none⟩ = some (.string x.s) ∧ W.cell? ⟨blk, off + i * 6 + 1, none⟩ = some (.int .i64 x.k) ∧ W.cell? ⟨blk, off + i * 6 + 2, none⟩ = some (.int .i64 x.n) ∧ W.cell? ⟨blk, off + i * 6 + 3, none⟩ = some (.slice x.A2 x.m2 x.c2) ∧ W.cell? ⟨blk, off + i * 6 + 4, none⟩ = some (.slice x.A3 x.m3 x.c3) ∧ W.cell? ⟨blk, off + i * 6 + 5, none⟩ = some (.slice x.A4 x.m4 x.c4)) := by
  have H := h.holds R hs
  subst hx
  have e := fun c hc => (H.cell hi (c := c) hc).1
  exact ⟨e 0 (by omega), e 1 (by omega), e 2 (by omega), e 3 (by omega), e 4 (by omega), e 5 (by omega)⟩
theorem SW6.free {w0 W : World} {blk off : Nat} {d0 dk : Array Rw} (h : SW6 w0 blk off dk W) (R : RW6 w0 blk off d0) (hs : dk.size = d0.size) (i : Nat) (hi : i < dk.size) :
    (W.frozen? ⟨blk, off + i * 6, none⟩ = false ∧ W.frozen? ⟨blk, off + i * 6 + 1, none⟩ = false ∧ W.frozen? ⟨blk, off + i * 6 + 2, none⟩ = false ∧ W.frozen? ⟨blk, off + i * 6 + 3, none⟩ = false ∧ W.frozen? ⟨blk, off + i * 6 + 4, none⟩ = false ∧ W.frozen? ⟨blk, off + i * 6 + 5, none⟩ = false) := by
  have H := h.holds R hs
  have e := fun c hc => (H.cell hi (c := c) hc).2
  exact ⟨e 0 (by omega), e 1 (by omega), e 2 (by omega), e 3 (by omega), e 4 (by omega), e 5 (by omega)⟩
theorem SW6.only {w0 W : World} {blk off : Nat} {dk : Array Rw} (h : SW6 w0 blk off dk W) : Only blk w0 W := by
  obtain ⟨n, os, rfl⟩ := h
  refine ⟨rfl, rfl, rfl, SWK.le ⟨n, os, rfl⟩, fun k hk hne => ?_⟩
  unfold sortWorldK
  rw [heap_grow_old _ _ (by rw [size_putRowK]; exact hk)]
  unfold putRowK putRow mapBlock
  simp only [Array.getElem?_modify]
  rw [if_neg (fun e => hne e.symm)]
  rfl
end
end Go.Proofs.Ytnlpdnimfaipmaa
