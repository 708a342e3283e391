/- Contracts of functions that the law calls, and what they lean on (a part). -/
import Derived.Laws.IdiomStrings
import Derived.Lib.SlBytesConst
import Derived.Test.YtdkmomdioiipjaaCmy2
namespace Go.Proofs.Ytdkmomdioiipjaa
section
open Go.RowKit
set_option linter.unusedVariables false
set_option maxRecDepth 100000
/-- Of what was there, the row's own block alone may have changed; the new row lies there or in new memory. -/
structure KeepX (v : Value) (w : World) (v' : Value) (w' : World) : Prop where
  os : w'.os = w.os
  tape : w'.tape = w.tape
  output : w'.output = w.output
  size : w.heap.size ≤ w'.heap.size
  block : ∀ i, i < w.heap.size → v.ownBlock ≠ some i → w'.heap[i]? = w.heap[i]?
  own : ∀ b, v'.ownBlock = some b → v.ownBlock = some b ∨ w.heap.size ≤ b
section
variable {v v' v'' : Value} {w w' w'' : World}
theorem KeepX.refl (v : Value) (w : World) : KeepX v w v w := ⟨rfl, rfl, rfl, Nat.le_refl _, fun _ _ _ => rfl, fun _ h => .inl h⟩
theorem KeepX.trans (h : KeepX v w v' w') (k : KeepX v' w' v'' w'') : KeepX v w v'' w'' := by
  refine ⟨k.os.trans h.os, k.tape.trans h.tape, k.output.trans h.output, Nat.le_trans h.size k.size, fun i hi hne => (k.block i (Nat.lt_of_lt_of_le hi h.size) (fun e => ?_)).trans (h.block i hi hne), fun b hb => ?_⟩
  · rcases h.own i e with h1 | h1
    · exact hne h1
    · omega
  · rcases k.own b hb with h1 | h1
    · exact h.own b h1
    · exact .inr (Nat.le_trans h.size h1)
theorem KeepX.below (h : KeepX v w v' w') {base : Nat} (hb : base ≤ w.heap.size) (ho : ∀ b, v.ownBlock = some b → base ≤ b) : Below base w w' :=
  ⟨h.os, h.tape, h.output, h.size, fun k hk => h.block k (Nat.lt_of_lt_of_le hk hb) (fun e => by have := ho k e; omega)⟩
end
theorem KeepX.ofBelow {v : Value} {w w' : World} (hb : Below w.heap.size w w') : KeepX v w v w' := ⟨hb.os, hb.tape, hb.output, hb.size, fun i hi _ => hb.block i hi, fun b h => .inl h⟩
/-- A row of one's own, of any cells of one place each. -/
def OwnV (w : World) (base : Nat) (e : TypeId) (v : Value) (xs : List Value) : Prop := w.ownsRow base e 1 v xs.length xs
section
variable {w w' : World} {base : Nat} {e : TypeId} {v v' : Value} {xs : List Value}
theorem OwnV.nil (w : World) (base : Nat) (e : TypeId) : OwnV w base e (.slice none 0 0) [] := ⟨rfl, .inl ⟨rfl, rfl⟩⟩
theorem OwnV.lt (h : OwnV w base e v xs) (b : Nat) (hb : v.ownBlock = some b) : b < w.heap.size ∧ base ≤ b := by
  rcases h.2 with ⟨rfl, _⟩ | ⟨b', cap, cur, rfl, h2, hh, _⟩
  · cases hb
  · injection hb with hb
    dsimp only at hb
    subst hb
    refine ⟨?_, h2⟩
    rcases Nat.lt_or_ge b' w.heap.size with hlt | hge
    · exact hlt
    · rw [Array.getElem?_eq_none hge] at hh; cases hh
theorem OwnV.same (h : OwnV w base e v xs) (hk : ∀ b, v.ownBlock = some b → w'.heap[b]? = w.heap[b]?) : OwnV w' base e v xs := by
  refine ⟨h.1, ?_⟩
  rcases h.2 with h0 | ⟨b, cap, cur, hv, hb, hh, hr⟩
  · exact .inl h0
  · exact .inr ⟨b, cap, cur, hv, hb, (hk b (by rw [hv]; rfl)).trans hh, hr⟩
theorem OwnV.low (h : OwnV w base e v xs) (hb : Below w.heap.size w w') : OwnV w' base e v xs := h.same fun b hb' => hb.block b (h.lt b hb').1
theorem OwnV.shape (h : OwnV w base e v xs) : ∃ A c, v = .slice A xs.length c := by
  rcases h.2 with ⟨rfl, h0⟩ | ⟨b, cap, cur, hv, _⟩
  · exact ⟨none, 0, by rw [h0]⟩
  · exact ⟨_, cap, hv⟩
theorem OwnV.cell (h : OwnV w base e v xs) (h0 : 0 < xs.length) : ∃ g c, v = .slice (some ⟨g, 0, none⟩) xs.length c ∧ g < w.heap.size ∧ ∀ i (hi : i < xs.length), w.cell? ⟨g, i, none⟩ = some (xs[i]'hi) := by
  rcases h.2 with ⟨rfl, h1⟩ | ⟨g, cap, cur, rfl, hb, hh, hn, hm, hs, ht⟩
  · omega
  · refine ⟨g, cap, rfl, (h.lt g rfl).1, fun i hi => ?_⟩
    rw [cell_of_row w g i cur e (0, 0) hh]
    rw [Nat.mul_one] at ht
    have := congrArg (·[i]?) ht
    simp only [List.getElem?_take_of_lt hi, List.getElem?_eq_getElem hi] at this
    rw [← this]
    simp
theorem OwnV.append1 (h : OwnV w base e v xs) (t ty : TypeId) (i : TypeInfo) (z : Value) (bytes : Nat) (ht : Try.prog.underlying t = some (.slice e)) (hi : Try.prog.info? e = some i) (hz : i.zero = some z)
    (hsize : i.size = 1) (hby : i.bytes = bytes) (hzs : z.cells.size = 1) (hb64 : bytes ≤ 64) (g : Nat) (u : Value) (hu : w.cell? ⟨g, 0, none⟩ = some u) (h1 : u.oneCell' = true) (hl : xs.length ≤ 1000000000) (hbase : base ≤ w.heap.size) :
    ∃ v' w', (Builtin.append_ #[t, t] ty #[v, .slice (some ⟨g, 0, none⟩) 1 1]).run Try.prog w = .ok v' w' ∧ OwnV w' base e v' (xs ++ [u]) ∧ KeepX v w v' w' ∧ ∃ A c, v' = .slice A (xs.length + 1) c := by
  obtain ⟨v', w', hr, hown, hgr, _, hat⟩ := run_append_own_at (P := Try.prog) w base t ty e i z 1 bytes ht hi hz hsize hby hzs (by omega) v xs.length xs h ⟨g, 0, none⟩ 1 1 [u] rfl
    (by
      intro j u' hj
      obtain rfl : j = 0 := by
        have := (List.getElem?_eq_some_iff.1 hj).1
        simp at this; omega
      simp at hj
      subst hj
      simpa [Addr.add] using hu)
    (by simpa using h1) (by simp only [maxLen]; omega)
    (by have : (xs.length + 1) * bytes ≤ (xs.length + 1) * 64 := Nat.mul_le_mul_left _ hb64; omega) hbase
  have hown2 : OwnV w' base e v' (xs ++ [u]) := by
    unfold OwnV
    rw [List.length_append]
    exact hown
  refine ⟨v', w', hr, hown2, ⟨hgr.os, hgr.tape, hgr.output, hgr.size, fun k hk hne => hgr.block k hk (fun e => hne e.symm), fun b hb => ?_⟩, ?_⟩
  · rcases hat with h1 | h1
    · exact .inl (by rw [← h1, hb])
    · rw [hb] at h1; injection h1 with h1; exact .inr (by omega)
  · obtain ⟨A, c, e1⟩ := hown2.shape
    exact ⟨A, c, by rw [e1, List.length_append]; rfl⟩
end
end
end Go.Proofs.Ytdkmomdioiipjaa
