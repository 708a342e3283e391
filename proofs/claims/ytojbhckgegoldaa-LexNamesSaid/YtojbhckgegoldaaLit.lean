/- Bytes that a literal lays; rows of parts that a call lays. -/
import Derived.Test.YtojbhckgegoldaaOwn
import Derived.Laws.IdiomStrings
import Derived.Lib.SlBytesConst
namespace Go.Proofs.Ytojbhckgegoldaa
open Go.RowKit
set_option linter.unusedVariables false
set_option maxRecDepth 100000

/-- A block of bytes that the call made. -/
theorem byt_lit (w : World) (fr : Nat × Nat) (zs : List Int) (hr : ∀ z ∈ zs, 0 ≤ z ∧ z < 256) (n : Nat) (hn : zs.length = n) (C : Array Value) (hC : C = (zs.map (Value.int .u8)).toArray) :
    Byt (w.alloc (.cells C 5 fr)) (w.heap.size + 1) (some ⟨w.heap.size, 0, none⟩) n n zs := by
  refine ⟨hn, Nat.le_refl _, hr, fun _ => ⟨w.heap.size, 0, rfl, by omega, fun i hi => ?_⟩⟩
  rw [World.cell?_alloc_mark, hC, Nat.zero_add]
  simp [List.getD, hn, hi]
theorem Byt.alloc {w : World} {B n c : Nat} {A : Option Addr} {zs : List Int} (h : Byt w B A n c zs) (hB : B ≤ w.heap.size) (o : Obj) : Byt (w.alloc o) B A n c zs := h.below ((Below.refl _ _).alloc (Nat.le_refl _) o) hB

def at3 {α : Type} (a b c : α) : Nat → α
  | 0 => a
  | 1 => b
  | _ => c
theorem parts1 {W : World} {b : Nat} {A : Option Addr} {n c : Nat} {zs : List Int} (hlt : b < W.heap.size) (hc : W.cell? ⟨b, 0, none⟩ = some (.slice A n c)) (hb : Byt W W.heap.size A n c zs) :
    Parts W W.heap.size (some ⟨b, 0, none⟩) 1 (at3 A A A) (at3 n n n) (at3 c c c) (at3 zs zs zs) := by
  refine ⟨fun _ => ⟨b, 0, rfl, hlt, fun i hi => ?_⟩, fun i hi => ?_⟩
  all_goals
    obtain rfl : i = 0 := by omega
  · exact hc
  · exact hb
theorem parts2 {W : World} {b : Nat} {A A' : Option Addr} {n c n' c' : Nat} {zs zs' : List Int} (hlt : b < W.heap.size) (hc : W.cell? ⟨b, 0, none⟩ = some (.slice A n c)) (hc' : W.cell? ⟨b, 1, none⟩ = some (.slice A' n' c')) (hb : Byt W W.heap.size A n c zs) (hb' : Byt W W.heap.size A' n' c' zs') :
    Parts W W.heap.size (some ⟨b, 0, none⟩) 2 (at3 A A' A) (at3 n n' n) (at3 c c' c) (at3 zs zs' zs) := by
  refine ⟨fun _ => ⟨b, 0, rfl, hlt, fun i hi => ?_⟩, fun i hi => ?_⟩
  all_goals
    obtain rfl | rfl : i = 0 ∨ i = 1 := by omega
  · exact hc
  · exact hc'
  · exact hb
  · exact hb'
theorem parts3 {W : World} {b : Nat} {A A' A'' : Option Addr} {n c n' c' n'' c'' : Nat} {zs zs' zs'' : List Int} (hlt : b < W.heap.size) (hc : W.cell? ⟨b, 0, none⟩ = some (.slice A n c)) (hc' : W.cell? ⟨b, 1, none⟩ = some (.slice A' n' c')) (hc'' : W.cell? ⟨b, 2, none⟩ = some (.slice A'' n'' c''))
    (hb : Byt W W.heap.size A n c zs) (hb' : Byt W W.heap.size A' n' c' zs') (hb'' : Byt W W.heap.size A'' n'' c'' zs'') :
    Parts W W.heap.size (some ⟨b, 0, none⟩) 3 (at3 A A' A'') (at3 n n' n'') (at3 c c' c'') (at3 zs zs' zs'') := by
  refine ⟨fun _ => ⟨b, 0, rfl, hlt, fun i hi => ?_⟩, fun i hi => ?_⟩
  all_goals
    obtain rfl | rfl | rfl : i = 0 ∨ i = 1 ∨ i = 2 := by omega
  · exact hc
  · exact hc'
  · exact hc''
  · exact hb
  · exact hb'
  · exact hb''
end Go.Proofs.Ytojbhckgegoldaa
