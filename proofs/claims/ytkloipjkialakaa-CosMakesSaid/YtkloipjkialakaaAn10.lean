/- Chapter 10: the project's anew: a row in new memory, of any of three kinds. -/
import Derived.Test.YtkloipjkialakaaSt10
import Derived.Test.YtkloipjkialakaaMk10
namespace Go.Proofs.Ytkloipjkialakaa
open Go.RowKit
set_option linter.unusedVariables false
set_option maxRecDepth 100000

/-- Cells that lie from a place on. -/
def CellsAt (w : World) (g o : Nat) (cs : List Value) : Prop := ∀ j u, cs[j]? = some u → w.cell? ⟨g, o + j, none⟩ = some u
theorem run_anew (t e : TypeId) (i : TypeInfo) (z : Value) (size bytes : Nat) (ht : Try.prog.underlying t = some (.slice e)) (hi : Try.prog.info? e = some i) (hz : i.zero = some z) (hsize : i.size = size) (hby : i.bytes = bytes) (hzs : z.cells.size = size) (hsz : 0 < size)
    (w : World) (A : Option Addr) (n c : Nat) (cs : List Value) (hl : cs.length = n * size) (hA : 0 < n → ∃ g o, A = some ⟨g, o, none⟩ ∧ CellsAt w g o cs) (h1 : ∀ u ∈ cs, u.oneCell' = true) (hb : n * bytes ≤ 140737488355328) (hn : n ≤ 1000000000000) :
    ∃ v' w', (Builtin.append_ #[t, t] t #[.slice none 0 0, .slice A n c]).run Try.prog w = .ok v' w' ∧ w'.ownsRow w.heap.size e size v' n cs ∧ Below w.heap.size w w' ∧ (n = 0 → v' = .slice none 0 0) := by
  have hown : w.ownsRow w.heap.size e size (.slice none 0 0) 0 [] := ⟨by simp, .inl ⟨rfl, rfl⟩⟩
  have main : ∀ a, (∀ j u, cs[j]? = some u → w.cell? (Addr.add a j) = some u) → ∃ v' w', (Builtin.append_ #[t, t] t #[.slice none 0 0, .slice (some a) n c]).run Try.prog w = .ok v' w' ∧ w'.ownsRow w.heap.size e size v' n cs ∧ Below w.heap.size w w' ∧ (n = 0 → v' = .slice none 0 0) := fun a hc => by
    obtain ⟨v', w', hr, ho, hg, hnil, _⟩ := run_append_own_at (P := Try.prog) w w.heap.size t t e i z size bytes ht hi hz hsize hby hzs hsz (.slice none 0 0) 0 [] hown a n c cs hl hc h1 (by simp only [maxLen]; omega) (by rw [Nat.zero_add]; exact hb) (Nat.le_refl _)
    refine ⟨v', w', hr, by simpa using ho, ⟨hg.os, hg.tape, hg.output, hg.size, fun k hk => hg.block k hk (fun e => by simp [Value.ownBlock] at e)⟩, fun h0 => hnil.2 ⟨rfl, h0⟩⟩
  rcases A with _ | a
  · have h0 : n = 0 := by
      rcases Nat.eq_zero_or_pos n with h | h
      · exact h
      · obtain ⟨g, o, e, _⟩ := hA h; cases e
    subst h0
    have : cs = [] := List.eq_nil_of_length_eq_zero (by simpa using hl)
    subst this
    refine ⟨.slice none 0 0, w, ?_, hown, Below.refl _ _, fun _ => rfl⟩
    simp [Builtin.append_, run_underlying ht, sizeOf, typeInfo, hi, Builtin.lenOf, Builtin.firstCells]
  · refine main a (fun j u hj => ?_)
    have hjl := (List.getElem?_eq_some_iff.1 hj).1
    have h0 : 0 < n := by
      rcases Nat.eq_zero_or_pos n with h | h
      · rw [hl, h, Nat.zero_mul] at hjl; omega
      · exact h
    obtain ⟨g, o, e, hc⟩ := hA h0
    injection e with e
    subst e
    have e2 : (⟨g, o, none⟩ : Addr).add j = ⟨g, o + j, none⟩ := by unfold Addr.add; split <;> simp_all
    rw [e2]; exact hc j u hj
/-- What anew leaves. -/
def NewP (e size : Nat) (n : Nat) (cs : List Value) (w : World) (r : Ending) (w' : World) : Prop := ∃ A c, r = .returned (.slice A n c) ∧ w'.ownsRow w.heap.size e size (.slice A n c) n cs ∧ Below w.heap.size w w' ∧ (n = 0 → A = none ∧ c = 0)
theorem own_slice {w : World} {base e size n : Nat} {v : Value} {cs : List Value} (h : w.ownsRow base e size v n cs) : ∃ A c, v = .slice A n c := by
  obtain ⟨A, c, e, _⟩ := row_shapeN h
  exact ⟨A, c, e⟩
theorem anewB (A : Option Addr) (n c : Nat) (cs : List Value) (w : World) (hl : cs.length = n * 1) (hA : 0 < n → ∃ g o, A = some ⟨g, o, none⟩ ∧ CellsAt w g o cs) (h1 : ∀ u ∈ cs, u.oneCell' = true) (hn : n ≤ 1000000000000) :
    Calls Try.prog 50 #[.slice A n c] w (NewP 5 1 n cs w) := by
  obtain ⟨i0, hi, hz0, hz1, hz2⟩ := info_parts info5
  have HR := Lib.hid (run_anew 23 5 i0 _ 1 1 Try.underlying23 hi hz0 hz1 hz2 rfl (by omega) w A n c cs hl hA h1 (by omega) hn)
  clear hi hz0 hz1 hz2 hl hA h1
  obtain ⟨v', w', hrun, ho, hb, h0⟩ := HR.out
  obtain ⟨A', c', rfl⟩ := own_slice ho
  have HO := Lib.hid (show NewP _ _ _ _ _ (.returned (.slice A' n c')) w' from ⟨A', c', rfl, ho, hb, fun h => by have := h0 h; injection this with a b c; exact ⟨a, c⟩⟩)
  clear ho hb h0 HR
  go_enter Try.func50, Try.ntmps50
  go_wp2_with (at_builtin; refine Lib.wpList_append_run_sl _ rfl _ (.tmp 3) 23 rfl _ _ rfl rfl hrun ?_; clear hrun)
  go_ret
  exact HO.out
theorem anewO (A : Option Addr) (n c : Nat) (cs : List Value) (w : World) (hl : cs.length = n * 5) (hA : 0 < n → ∃ g o, A = some ⟨g, o, none⟩ ∧ CellsAt w g o cs) (h1 : ∀ u ∈ cs, u.oneCell' = true) (hn : n ≤ 1000000000000) :
    Calls Try.prog 51 #[.slice A n c] w (NewP 27 5 n cs w) := by
  obtain ⟨i0, hi, hz0, hz1, hz2⟩ := info_parts infoO
  have HR := Lib.hid (run_anew 24 27 i0 _ 5 88 Try.underlying24 hi hz0 hz1 hz2 rfl (by omega) w A n c cs hl hA h1 (by omega) hn)
  clear hi hz0 hz1 hz2 hl hA h1
  obtain ⟨v', w', hrun, ho, hb, h0⟩ := HR.out
  obtain ⟨A', c', rfl⟩ := own_slice ho
  have HO := Lib.hid (show NewP _ _ _ _ _ (.returned (.slice A' n c')) w' from ⟨A', c', rfl, ho, hb, fun h => by have := h0 h; injection this with a b c; exact ⟨a, c⟩⟩)
  clear ho hb h0 HR
  go_enter Try.func51, Try.ntmps51
  go_wp2_with (at_builtin; refine Lib.wpList_append_run_sl _ rfl _ (.tmp 3) 24 rfl _ _ rfl rfl hrun ?_; clear hrun)
  go_ret
  exact HO.out
theorem anewE (A : Option Addr) (n c : Nat) (cs : List Value) (w : World) (hl : cs.length = n * 6) (hA : 0 < n → ∃ g o, A = some ⟨g, o, none⟩ ∧ CellsAt w g o cs) (h1 : ∀ u ∈ cs, u.oneCell' = true) (hn : n ≤ 1000000000000) :
    Calls Try.prog 52 #[.slice A n c] w (NewP 32 6 n cs w) := by
  obtain ⟨i0, hi, hz0, hz1, hz2⟩ := info_parts infoE
  have HR := Lib.hid (run_anew 25 32 i0 _ 6 104 Try.underlying25 hi hz0 hz1 hz2 rfl (by omega) w A n c cs hl hA h1 (by omega) hn)
  clear hi hz0 hz1 hz2 hl hA h1
  obtain ⟨v', w', hrun, ho, hb, h0⟩ := HR.out
  obtain ⟨A', c', rfl⟩ := own_slice ho
  have HO := Lib.hid (show NewP _ _ _ _ _ (.returned (.slice A' n c')) w' from ⟨A', c', rfl, ho, hb, fun h => by have := h0 h; injection this with a b c; exact ⟨a, c⟩⟩)
  clear ho hb h0 HR
  go_enter Try.func52, Try.ntmps52
  go_wp2_with (at_builtin; refine Lib.wpList_append_run_sl _ rfl _ (.tmp 3) 25 rfl _ _ rfl rfl hrun ?_; clear hrun)
  go_ret
  exact HO.out
end Go.Proofs.Ytkloipjkialakaa
