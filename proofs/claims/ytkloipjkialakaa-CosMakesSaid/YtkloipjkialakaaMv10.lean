/- Chapter 10: the values of entries, in a row; what laws share. -/
import Derived.Test.YtkloipjkialakaaLaw10Do
import Derived.Test.YtkloipjkialakaaMh10
import Derived.Test.YtkloipjkialakaaWb10
import Derived.Test.YtkloipjkialakaaOe10
import Derived.Test.YtkloipjkialakaaPp10
import Derived.Test.YtkloipjkialakaaMk10
import Derived.Test.YtkloipjkialakaaAr10
import Derived.Laws.BytesArg
namespace Go.Proofs.Ytkloipjkialakaa
open Go.ChangeShapes Go.WideShapes Go.ChangeAt Go.RowKit Go.Deep
set_option linter.unusedVariables false
set_option maxRecDepth 100000

def valsE : Ens → Obs
  | .nil => .nil
  | .cons _ x xs => .cons x (valsE xs)
theorem valsE_len : ∀ l : Ens, (valsE l).len = l.len
  | .nil => rfl
  | .cons s x xs => by rw [valsE, Obs.len, Ens.len, valsE_len xs]
theorem valsE_get : ∀ (l : Ens) (i : Nat) (s : ByteArray) (x : Ob), l.get? i = some (s, x) → (valsE l).get? i = some x
  | .nil, i, s, x, h => by simp [Ens.get?] at h
  | .cons t y ys, 0, s, x, h => by simp [Ens.get?] at h; obtain ⟨rfl, rfl⟩ := h; rfl
  | .cons t y ys, i + 1, s, x, h => by have := valsE_get ys i s x (by simpa [Ens.get?] using h); simpa [valsE, Obs.get?] using this
theorem valsE_wd (W : Nat) : ∀ l : Ens, wdE W l → wdL W (valsE l)
  | .nil, _ => by unfold valsE wdL; trivial
  | .cons s x xs, h => by unfold wdE at h; unfold valsE wdL; exact ⟨h.1, valsE_wd W xs h.2⟩
theorem valsE_ok : ∀ l : Ens, okE l → okL (valsE l)
  | .nil, _ => by unfold valsE okL; trivial
  | .cons s x xs, h => by unfold okE at h; unfold valsE okL; exact ⟨h.1, valsE_ok xs h.2⟩
theorem valsE_ht : ∀ l : Ens, htL (valsE l) = htE l
  | .nil => by rw [valsE, htL, htE]
  | .cons s x xs => by rw [valsE, htL, htE, valsE_ht xs]
/-- One of old more. -/
theorem OwnO.old1 {T : Nat → Prop} {w : World} {base : Nat} {v : Value} {l : Obs} (h : OwnO T w base v l) (x : Ob) {c0 c1 c2 c3 c4 : Value} (hx : ObR w T x c0 c1 c2 c3 c4) (hl : l.len ≤ 1000000000) (hbase : base ≤ w.heap.size) (hT : ∀ g, T g → g < base) :
    ∃ A c w'', (Builtin.append_ #[24, 24] 24 #[v, .slice (some ⟨w.heap.size, 0, none⟩) 1 1]).run Try.prog (w.alloc (.cells #[c0, c1, c2, c3, c4] 27)) = .ok (.slice A (l.len + 1) c) w'' ∧ OwnO T w'' base (.slice A (l.len + 1) c) (l.snoc x) ∧ Below base w w'' := by
  have hb1 : Below w.heap.size w (w.alloc (.cells #[c0, c1, c2, c3, c4] 27)) := (Below.refl _ _).alloc (Nat.le_refl _) _
  have h1 := h.low hb1
  have hn := heap_alloc_new w (.cells #[c0, c1, c2, c3, c4] 27)
  have hx1 : ObR (w.alloc (.cells #[c0, c1, c2, c3, c4] 27)) (ownS T (w.alloc (.cells #[c0, c1, c2, c3, c4] 27)) base v) x c0 c1 c2 c3 c4 :=
    ObR.keep (fun g hg => hb1.block g (Nat.lt_of_lt_of_le (hT g hg) hbase)) (fun g hg => ⟨.inl hg, Nat.lt_of_lt_of_le (hT g hg) (Nat.le_trans hbase hb1.size), fun e => by have := h.owned g e; have := hT g hg; omega⟩) x hx
  obtain ⟨v', w'', hr, ho, hk, A, c, rfl⟩ := h1.append1 x w.heap.size hx1 (by rw [cell_of_row _ _ 0 _ _ (0, 0) hn]; rfl) (by rw [cell_of_row _ _ 1 _ _ (0, 0) hn]; rfl) (by rw [cell_of_row _ _ 2 _ _ (0, 0) hn]; rfl) (by rw [cell_of_row _ _ 3 _ _ (0, 0) hn]; rfl) (by rw [cell_of_row _ _ 4 _ _ (0, 0) hn]; rfl) hl (Nat.le_trans hbase hb1.size) hT
  exact ⟨A, c, w'', hr, ho, (hb1.mono hbase).trans (hk.below (Nat.le_trans hbase hb1.size) (fun b hb => h1.owned b hb))⟩
theorem same_yes (x : Ob) (w : World) {a0 a1 a2 a3 a4 b0 b1 b2 b3 b4 : Value} (ha : ObR w (oldT w) x a0 a1 a2 a3 a4) (hb : ObR w (oldT w) x b0 b1 b2 b3 b4) : Calls Try.prog 30 #[.agg #[a0, a1, a2, a3, a4], .agg #[b0, b1, b2, b3, b4]] w fun r w' => r = .returned (.bool true) ∧ Below w.heap.size w w' := by
  have h := sameOC _ x (Nat.le_refl _) x (oldT w) w _ _ _ _ _ _ _ _ _ _ ha hb (fun g hg => hg)
  rw [sameO_self] at h
  exact h
theorem ByS {w W : World} {A : Option Addr} {n c : Nat} {zs : List Int} (h : Byt w w.heap.size A n c zs) (hn : c ≤ 9223372036854775807) (hW : Below w.heap.size w W) : BytS W (fun g => g < w.heap.size) A n c zs := by
  have h2 := h.below hW (Nat.le_refl _)
  exact ⟨h2.len, ⟨h2.cap, hn⟩, h2.rng, fun h0 => by
    obtain ⟨b, o, e, hl, hc⟩ := h2.cell h0
    exact ⟨b, o, e, hl, hc⟩⟩
theorem str_of {w : World} {A : Option Addr} {n c : Nat} {zs : List Int} (h : Byt w w.heap.size A n c zs) : ∃ s : ByteArray, s.size = n ∧ ∀ W, Below w.heap.size w W → (convert 23 9 (.slice A n c)).run Try.prog W = .ok (.string s) W := by
  rcases Nat.eq_zero_or_pos n with h0 | h0
  · subst h0
    refine ⟨⟨#[]⟩, rfl, fun W _ => ?_⟩
    rw [run_convert_bytes_string W 23 9 5 A 0 c Try.underlying23 Try.underlying5 Try.underlying9]
    rcases A with _ | a <;> kernel_rfl
  · refine ⟨strOfNums zs, ?_, fun W hW => ?_⟩
    · have := h.len
      show ((List.map _ zs).toArray).size = n
      simp [this]
    · have h2 := h.below hW (Nat.le_refl _)
      obtain ⟨b, o, rfl, hl, hc⟩ := h2.cell h0
      exact run_convert_bytes_arg W 23 5 Try.underlying23 Try.underlying5 b o n c zs h2.len hc 9 Try.underlying9
end Go.Proofs.Ytkloipjkialakaa
