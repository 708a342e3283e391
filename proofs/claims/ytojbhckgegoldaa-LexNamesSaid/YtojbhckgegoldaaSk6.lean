/- The document's own Sink (chapters 6 to 8): bytes up to a bound. -/
import Derived.Test.YtojbhckgegoldaaRow5
import Derived.Test.YtojbhckgegoldaaRef1
import Derived.Deep.QuietTactic
import Derived.BigQuiet
import Derived.WalkSpells
namespace Go.Proofs.Ytojbhckgegoldaa
open Go.RowKit
set_option linter.unusedVariables false
set_option maxRecDepth 100000

/-- A row of one's own stays where its block stays. -/
theorem Mine.same6 {w w' : World} {base p : Nat} {v : Value} {zs : List Int} (h : Mine w base v p zs) (hb : ∀ b, v.ownBlock = some b → b < w.heap.size → w'.heap[b]? = w.heap[b]?) : Mine w' base v p zs := by
  refine ⟨⟨h.own.1, ?_⟩, h.rng⟩
  rcases h.own.2 with h0 | ⟨b, cap, cur, hv, hbb, hh, hr⟩
  · exact .inl h0
  · refine .inr ⟨b, cap, cur, hv, hbb, ?_, hr⟩
    have hlt : b < w.heap.size := by
      rcases Nat.lt_or_ge b w.heap.size with hlt | hge
      · exact hlt
      · rw [Array.getElem?_eq_none hge] at hh; cases hh
    rw [hb b (by rw [hv]; rfl) hlt]
    exact hh
section
variable {w w' : World} {base ks M : Nat} {v : Value} {out : List Int} {bad : Int}
end

def skO (M : Nat) (out : List Int) (bad z : Int) : List Int := if bad = 0 ∧ out.length < M then out ++ [z] else out
def skE (M : Nat) (out : List Int) (bad : Int) : Int := if bad = 0 ∧ M ≤ out.length then 7 else bad

theorem info_int6 : (Try.prog.info? 3).map (fun i => (i.zero, i.size, i.bytes)) = some (some (.int .i64 0), 1, 8) := by kernel_rfl
/-- The slice '.slice A n c' holds the numbers zs; where there is one, it lies below block B. -/
structure NumI (w : World) (B : Nat) (A : Option Addr) (n c : Nat) (zs : List Int) : Prop where
  len : zs.length = n
  cap : n ≤ c
  cell : 0 < n → ∃ b o, A = some ⟨b, o, none⟩ ∧ b < B ∧ ∀ i, i < n → w.cell? ⟨b, o + i, none⟩ = some (.int .i64 (zs.getD i 0))
theorem NumI.below {w w' : World} {B B' n c : Nat} {A : Option Addr} {zs : List Int} (h : NumI w B A n c zs) (hb : Below B' w w') (hB : B ≤ B') : NumI w' B A n c zs :=
  ⟨h.len, h.cap, fun hn => by
    obtain ⟨b, o, e, hlt, hc⟩ := h.cell hn
    exact ⟨b, o, e, hlt, fun i hi => (hb.cell (p := ⟨b, o + i, none⟩) (Nat.lt_of_lt_of_le hlt hB)).trans (hc i hi)⟩⟩
theorem NumI.keep {w w' : World} {B n c : Nat} {A : Option Addr} {zs : List Int} (h : NumI w B A n c zs) (hb : ∀ b o, A = some ⟨b, o, none⟩ → w'.heap[b]? = w.heap[b]?) : NumI w' B A n c zs :=
  ⟨h.len, h.cap, fun hn => by
    obtain ⟨b, o, e, hlt, hc⟩ := h.cell hn
    exact ⟨b, o, e, hlt, fun i hi => (World.cell?_of_block (a := ⟨b, o + i, none⟩) (hb b o e)).trans (hc i hi)⟩⟩
/-- v is a slice of the call's own, in a block from 'base' on, that holds the p numbers zs. -/
structure RowI (w : World) (base : Nat) (v : Value) (p : Nat) (zs : List Int) : Prop where
  own : w.ownsRow base 3 1 v p (zs.map (Value.int .i64))
section
variable {w w' : World} {base p : Nat} {v : Value} {zs : List Int}
theorem RowI.len (h : RowI w base v p zs) : zs.length = p := by have := h.own.1; simp at this; exact this
theorem RowI.nil (w : World) (base : Nat) : RowI w base (.slice none 0 0) 0 [] := ⟨⟨rfl, .inl ⟨rfl, rfl⟩⟩⟩
theorem RowI.drewN (h : RowI w base v p zs) (k : Nat) : RowI (w.drewN k) base v p zs := ⟨h.own⟩
theorem RowI.same (h : RowI w base v p zs) (hb : ∀ b, v.ownBlock = some b → b < w.heap.size → w'.heap[b]? = w.heap[b]?) : RowI w' base v p zs := by
  refine ⟨⟨h.own.1, ?_⟩⟩
  rcases h.own.2 with h0 | ⟨b, cap, cur, hv, hbb, hh, hr⟩
  · exact .inl h0
  · refine .inr ⟨b, cap, cur, hv, hbb, ?_, hr⟩
    have hlt : b < w.heap.size := by
      rcases Nat.lt_or_ge b w.heap.size with hlt | hge
      · exact hlt
      · rw [Array.getElem?_eq_none hge] at hh; cases hh
    rw [hb b (by rw [hv]; rfl) hlt]
    exact hh
theorem RowI.lt (h : RowI w base v p zs) (b : Nat) (hb : v.ownBlock = some b) : b < w.heap.size ∧ base ≤ b := by
  rcases h.own.2 with ⟨rfl, _⟩ | ⟨b', cap, cur, rfl, hbb, hh, _⟩
  · cases hb
  · injection hb with hb
    dsimp only at hb
    subst hb
    refine ⟨?_, hbb⟩
    rcases Nat.lt_or_ge b' w.heap.size with hlt | hge
    · exact hlt
    · rw [Array.getElem?_eq_none hge] at hh; cases hh
theorem RowI.nums (h : RowI w base v p zs) : ∃ A c, v = .slice A p c ∧ NumI w w.heap.size A p c zs ∧ (∀ b o, A = some ⟨b, o, none⟩ → v.ownBlock = some b) := by
  rcases h.own.2 with ⟨rfl, h0⟩ | ⟨b, cap, cur, rfl, hb, hh, hnc, _⟩
  · subst h0
    exact ⟨none, 0, rfl, ⟨h.len, Nat.le_refl _, fun h => absurd h (by omega)⟩, fun b o e => by cases e⟩
  · refine ⟨some ⟨b, 0, none⟩, cap, rfl, ⟨h.len, hnc, fun h0 => ?_⟩, fun b' o' e => by injection e with e; injection e with e1 e2; subst e1; rfl⟩
    have hlt := (h.lt b rfl).1
    refine ⟨b, 0, rfl, hlt, fun i hi => ?_⟩
    have hci := h.own.cells (g := b) rfl i (.int .i64 (zs.getD i 0)) (by simp [List.getD, h.len, hi])
    have e2 : (⟨b, 0, none⟩ : Addr).add i = ⟨b, 0 + i, none⟩ := by unfold Addr.add; split <;> simp_all
    rw [← e2]; exact hci
end
end Go.Proofs.Ytojbhckgegoldaa
