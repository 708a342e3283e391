/- The document's own flow (chapter 4): the tables that a block tells: what they are; rows of numbers that grow. -/
import Derived.Test.YtginbilakdenmaaRef4Coded
namespace Go.Proofs.Ytginbilakdenmaa
open Go.RowKit
set_option linter.unusedVariables false
set_option maxRecDepth 100000

/-- v is a slice of the call's own that holds the p numbers zs. -/
structure MineI (w : World) (v : Value) (p : Nat) (zs : List Int) : Prop where
  own : w.ownsRow 0 3 1 v p (zs.map (Value.int .i64))
section
variable {w w' : World} {p : Nat} {v : Value} {zs : List Int}
theorem MineI.len (h : MineI w v p zs) : zs.length = p := by have := h.own.1; simp at this; exact this
theorem MineI.nil (w : World) : MineI w (.slice none 0 0) 0 [] := ⟨⟨rfl, .inl ⟨rfl, rfl⟩⟩⟩
theorem MineI.drewN (h : MineI w v p zs) (k : Nat) : MineI (w.drewN k) v p zs := ⟨h.own⟩
theorem MineI.same (h : MineI w v p zs) (hb : ∀ b, v.ownBlock = some b → b < w.heap.size → w'.heap[b]? = w.heap[b]?) : MineI w' v p zs := by
  refine ⟨⟨h.own.1, ?_⟩⟩
  rcases h.own.2 with h0 | ⟨b, cap, cur, hv, hbb, hh, hr⟩
  · exact .inl h0
  · refine .inr ⟨b, cap, cur, hv, hbb, ?_, hr⟩
    have hlt : b < w.heap.size := by
      rcases Nat.lt_or_ge b w.heap.size with hlt | hge
      · exact hlt
      · rw [Array.getElem?_eq_none hge] at hh; cases hh
    rw [hb b (by rw [hv]; rfl) hlt]
    exact hh
theorem MineI.lt (h : MineI w v p zs) (b : Nat) (hb : v.ownBlock = some b) : b < w.heap.size := by
  rcases h.own.2 with ⟨rfl, _⟩ | ⟨b', cap, cur, rfl, _, hh, _⟩
  · cases hb
  · injection hb with hb
    dsimp only at hb
    subst hb
    rcases Nat.lt_or_ge b' w.heap.size with hlt | hge
    · exact hlt
    · rw [Array.getElem?_eq_none hge] at hh; cases hh
theorem MineI.nums (h : MineI w v p zs) : ∃ A c, v = .slice A p c ∧ Nums w w.heap.size A p c zs ∧ (0 < p → ∃ b, A = some ⟨b, 0, none⟩ ∧ v.ownBlock = some b) := by
  rcases h.own.2 with ⟨rfl, h0⟩ | ⟨b, cap, cur, rfl, hb, hh, hnc, _⟩
  · subst h0
    exact ⟨none, 0, rfl, ⟨h.len, Nat.le_refl _, fun h => absurd h (by omega)⟩, fun h => absurd h (by omega)⟩
  · refine ⟨some ⟨b, 0, none⟩, cap, rfl, ⟨h.len, hnc, fun h0 => ?_⟩, fun _ => ⟨b, rfl, rfl⟩⟩
    have hlt := h.lt b rfl
    refine ⟨b, 0, rfl, hlt, fun i hi => ?_⟩
    have hci := h.own.cells (g := b) rfl i (.int .i64 (zs.getD i 0)) (by simp [List.getD, h.len, hi])
    have e2 : (⟨b, 0, none⟩ : Addr).add i = ⟨b, 0 + i, none⟩ := by unfold Addr.add; split <;> simp_all
    rw [← e2]; exact hci
end
/-- One number more behind a row of one's own. -/
theorem MineI.append1 {w : World} {v : Value} {p : Nat} {zs : List Int} (h : MineI w v p zs) (z : Int) (ty : TypeId) (hp : p + 1 ≤ 1000000) :
    ∃ v' w', (Builtin.append_ #[62, 62] ty #[v, .slice (some ⟨w.heap.size, 0, none⟩) 1 1]).run Try.prog (w.alloc (.cells #[.int .i64 z] 3)) = .ok v' w' ∧ MineI w' v' (p + 1) (zs ++ [z]) ∧
      (∀ k, k < w.heap.size → v.ownBlock ≠ some k → w'.heap[k]? = w.heap[k]?) ∧ w'.os = w.os ∧ w'.tape = w.tape ∧ w'.output = w.output ∧ w.heap.size ≤ w'.heap.size ∧ (∀ b, v'.ownBlock = some b → v.ownBlock = some b ∨ w.heap.size ≤ b) := by
  obtain ⟨i0, hi, hz0, hz1, hz2⟩ := info_parts infoInt
  have hl : MineI (w.alloc (.cells #[.int .i64 z] 3)) v p zs := h.same fun b _ hlt => ((Below.refl w.heap.size w).alloc (Nat.le_refl _) (.cells #[.int .i64 z] 3)).block b hlt
  obtain ⟨v', w', hr, hown, hgr, _, hat⟩ := run_append_own_at (P := Try.prog) (w.alloc (.cells #[.int .i64 z] 3)) 0 62 ty 3 i0 _ 1 8 Try.underlying62 hi hz0 hz1 hz2 rfl (by omega) v p _ hl.own ⟨w.heap.size, 0, none⟩ 1 1 [.int .i64 z]
    (by simp) (fun j u hj => by
      have hj0 : j = 0 := by
        have := (List.getElem?_eq_some_iff.1 hj).1
        simp at this; exact this
      subst hj0
      have hc : (w.alloc (.cells #[.int .i64 z] 3)).cell? ⟨w.heap.size, 0, none⟩ = some (.int .i64 z) := by rw [cell_of_row _ w.heap.size 0 #[.int .i64 z] 3 (0, 0) (heap_alloc_new w _)]; rfl
      rw [show (⟨w.heap.size, 0, none⟩ : Addr).add 0 = ⟨w.heap.size, 0 + 0, none⟩ from rfl, Nat.add_zero, hc, ← hj]
      simp) (fun u hu => by simp at hu; subst hu; rfl) (by simp only [maxLen]; omega) (by omega) (Nat.zero_le _)
  have hsz : (w.alloc (.cells #[.int .i64 z] 3)).heap.size = w.heap.size + 1 := by simp
  refine ⟨v', w', hr, ⟨by simpa using hown⟩, fun k hk hne => ?_, hgr.os, hgr.tape, hgr.output, Nat.le_trans (by simp) hgr.size, fun b hb => ?_⟩
  · rw [hgr.block k (by omega) (fun e => hne e.symm)]
    exact ((Below.refl w.heap.size w).alloc (Nat.le_refl _) (.cells #[.int .i64 z] 3)).block k hk
  · rcases hat with h1 | h1
    · exact .inl (by rw [← h1, hb])
    · rw [hb, hsz] at h1; injection h1 with h1; exact .inr (by omega)
/-- The flow stays where its blocks stay. -/
theorem FS.kept {w w' : World} {k g n c p most : Nat} {e : Int} {A : Option Addr} {v : Value} {out : List Int} {ts : Nat → Prop} (h : FS w k g ts A n c p e v out most) (hsz : w.heap.size ≤ w'.heap.size) (hb : ∀ i, i < w.heap.size → (i = k ∨ i = g ∨ v.ownBlock = some i) → w'.heap[i]? = w.heap[i]?) : FS w' k g ts A n c p e v out most :=
  ⟨(hb g h.bs.lt (.inr (.inl rfl))).trans h.bs, (hb k h.lt (.inl rfl)).trans h.fl, h.kg, h.row.same (fun b hv hlt => hb b hlt (.inr (.inr hv))), h.own, h.tk, h.tg, fun i hi => Nat.lt_of_lt_of_le (h.tb i hi) hsz⟩

def ordL : List Int := [16, 17, 18, 0, 8, 7, 9, 6, 10, 5, 11, 4, 12, 3, 13, 2, 14, 1, 15]
/-- The lengths of the code of lengths. -/
def clR (zs : List Int) : Nat → Nat → Nat → Int → List Int → Nat × Int × List Int
  | 0, _, p, e, cl => (p, e, cl)
  | k + 1, i, p, e, cl => clR zs k (i + 1) (takeS zs p e 3).2.1 (takeS zs p e 3).2.2 (cl.set (ordL.getD i 0).toNat (takeS zs p e 3).1)
/-- What a symbol says: which number, how often; where the reader stands then, its error. -/
def repS (zs : List Int) (s : Int) (l : List Int) (p : Nat) (e : Int) : Int × Int × Nat × Int :=
  if ¬ e = 0 then (s, 1, p, e)
  else if s = 16 ∧ l.length = 0 then (s, 1, p, 4)
  else if s = 16 then (l.getD (l.length - 1) 0, 3 + (takeS zs p 0 2).1, (takeS zs p 0 2).2.1, (takeS zs p 0 2).2.2)
  else if s = 17 then (0, 3 + (takeS zs p 0 3).1, (takeS zs p 0 3).2.1, (takeS zs p 0 3).2.2)
  else if s = 18 then (0, 11 + (takeS zs p 0 7).1, (takeS zs p 0 7).2.1, (takeS zs p 0 7).2.2)
  else (s, 1, p, e)
def overS (tot : Nat) (l : List Int) (r : Int × Int × Nat × Int) : Int := if r.2.2.2 = 0 ∧ (tot : Int) < l.length + r.2.1 then 4 else r.2.2.2
def growS (tot : Nat) (l : List Int) (r : Int × Int × Nat × Int) : List Int := if overS tot l r = 0 then l ++ List.replicate r.2.1.toNat r.1 else l
def rowsR (zs cl cs : List Int) (tot : Nat) : Nat → Nat → Int → List Int → Nat × Int × List Int
  | 0, p, e, l => (p, e, l)
  | F + 1, p, e, l =>
    if e = 0 ∧ l.length < tot then
      let a := symS zs cl cs p 0
      let r := repS zs a.1 l a.2.1 a.2.2
      rowsR zs cl cs tot F r.2.2.1 (overS tot l r) (growS tot l r)
    else (p, e, l)
def dynS (zs : List Int) (p : Nat) : Nat × Int × List Int × List Int :=
  let a := takeS zs p 0 5
  let b := takeS zs a.2.1 (if a.2.2 = 0 ∧ 286 < a.1 + 257 then 4 else a.2.2) 5
  let c := takeS zs b.2.1 (if b.2.2 = 0 ∧ 30 < b.1 + 1 then 4 else b.2.2) 4
  let d := clR zs (c.1 + 4).toNat 0 c.2.1 c.2.2 (List.replicate 19 0)
  let r := rowsR zs d.2.2 (codesS d.2.2) (a.1 + 257 + (b.1 + 1)).toNat ((a.1 + 257 + (b.1 + 1)).toNat + 1) d.1 (if d.2.1 = 0 ∧ mayS d.2.2 = false then 4 else d.2.1) []
  if ¬ r.2.1 = 0 then (r.1, r.2.1, [], [])
  else (r.1, if mayS (r.2.2.take (a.1 + 257).toNat) = false ∨ mayS (r.2.2.drop (a.1 + 257).toNat) = false ∨ (r.2.2.take (a.1 + 257).toNat).getD 256 0 = 0 then 4 else 0, r.2.2.take (a.1 + 257).toNat, r.2.2.drop (a.1 + 257).toNat)

theorem symR_lt (zs l cs : List Int) : ∀ (k : Nat) (n v : Int) (p : Nat) (s : Int) (p' : Nat), symR zs l cs k n v p = (s, p', 0) → s < l.length
  | 0, _, _, _, s, p', h => by rw [symR] at h; cases h
  | k + 1, n, v, p, s, p', h => by
    rw [symR] at h
    split at h
    · split at h
      · rename_i i hi
        have := hitS_lt l cs _ _ i hi
        cases h; omega
      · exact symR_lt zs l cs k _ _ _ s p' h
    · cases h
theorem ordL_lt (i : Nat) (hi : i < 19) : 0 ≤ ordL.getD i 0 ∧ ordL.getD i 0 < 19 := by
  have key : ∀ i : Fin 19, 0 ≤ ordL.getD i.val 0 ∧ ordL.getD i.val 0 < 19 := by decide
  exact key ⟨i, hi⟩
/-- Numbers from 0 to 15. -/
def Lens (l : List Int) : Prop := ∀ i, 0 ≤ l.getD i 0 ∧ l.getD i 0 ≤ 15
theorem Lens.nil : Lens [] := fun i => by simp
theorem lens_iff (l : List Int) : Lens l ↔ ∀ z ∈ l, 0 ≤ z ∧ z ≤ 15 := by
  constructor
  · intro h z hz
    obtain ⟨i, hi, rfl⟩ := List.getElem_of_mem hz
    have := h i
    simpa [List.getD, hi] using this
  · intro h i
    rcases Nat.lt_or_ge i l.length with hi | hi
    · have e : l.getD i 0 = l[i] := by simp [List.getD, hi]
      rw [e]; exact h _ (List.getElem_mem hi)
    · have e : l.getD i 0 = 0 := by simp [List.getD, List.getElem?_eq_none hi]
      rw [e]; omega
theorem Lens.grow {l : List Int} (h : Lens l) (k : Nat) (z : Int) (hz : 0 ≤ z ∧ z ≤ 15) : Lens (l ++ List.replicate k z) := by
  rw [lens_iff] at h ⊢
  intro y hy
  rcases List.mem_append.1 hy with hy | hy
  · exact h y hy
  · rw [List.eq_of_mem_replicate hy]; exact hz
theorem Lens.set {l : List Int} (h : Lens l) (k : Nat) (z : Int) (hz : 0 ≤ z ∧ z ≤ 15) : Lens (l.set k z) := by
  rw [lens_iff] at h ⊢
  intro y hy
  rcases List.mem_or_eq_of_mem_set hy with hy | rfl
  · exact h y hy
  · exact hz
theorem Lens.take {l : List Int} (h : Lens l) (k : Nat) : Lens (l.take k) := by
  rw [lens_iff] at h ⊢
  exact fun y hy => h y (List.mem_of_mem_take hy)
theorem Lens.drop {l : List Int} (h : Lens l) (k : Nat) : Lens (l.drop k) := by
  rw [lens_iff] at h ⊢
  exact fun y hy => h y (List.mem_of_mem_drop hy)
theorem Lens.zeros (n : Nat) : Lens (List.replicate n 0) := by
  rw [lens_iff]
  intro y hy
  rw [List.eq_of_mem_replicate hy]; omega
theorem clR_len (zs : List Int) : ∀ (k i p : Nat) (e : Int) (cl : List Int), (clR zs k i p e cl).2.2.length = cl.length
  | 0, _, _, _, _ => rfl
  | k + 1, i, p, e, cl => by rw [clR, clR_len zs k]; simp
theorem clR_lens (zs : List Int) : ∀ (k i p : Nat) (e : Int) (cl : List Int), Lens cl → Lens (clR zs k i p e cl).2.2
  | 0, _, _, _, _, h => h
  | k + 1, i, p, e, cl, h => by
    rw [clR]
    have hv := takeS_v zs p e 3
    exact clR_lens zs k _ _ _ _ (h.set _ _ (by omega))
theorem clR_p (zs : List Int) : ∀ (k i p : Nat) (e : Int) (cl : List Int), p ≤ 8 * zs.length → (clR zs k i p e cl).1 ≤ 8 * zs.length
  | 0, _, _, _, _, h => h
  | k + 1, i, p, e, cl, h => by
    rw [clR]
    exact clR_p zs k _ _ _ _ (takeS_p zs p e 3 h).1
/-- What a symbol says, bounded. -/
theorem repS_bd (zs : List Int) (s : Int) (l : List Int) (p : Nat) (e : Int) (hs : 0 ≤ s) (hs2 : e = 0 → s < 19) (hp : p ≤ 8 * zs.length) (hl : Lens l) :
    (repS zs s l p e).2.2.1 ≤ 8 * zs.length ∧ p ≤ (repS zs s l p e).2.2.1 ∧ 1 ≤ (repS zs s l p e).2.1 ∧ (repS zs s l p e).2.1 ≤ 138 ∧ ((repS zs s l p e).2.2.2 = 0 → 0 ≤ (repS zs s l p e).1 ∧ (repS zs s l p e).1 ≤ 15) := by
  have h2 := takeS_p zs p 0 2 hp
  have h3 := takeS_p zs p 0 3 hp
  have h7 := takeS_p zs p 0 7 hp
  have v2 := takeS_v zs p 0 2
  have v3 := takeS_v zs p 0 3
  have v7 := takeS_v zs p 0 7
  have hll := hl (l.length - 1)
  unfold repS
  by_cases he : e = 0
  · have := hs2 he
    rw [if_neg (by omega)]
    split
    · exact ⟨hp, Nat.le_refl _, by dsimp only; omega, by dsimp only; omega, fun h => by dsimp only at h; omega⟩
    · split
      · exact ⟨h2.1, h2.2, by dsimp only; omega, by dsimp only; omega, fun _ => hll⟩
      · split
        · exact ⟨h3.1, h3.2, by dsimp only; omega, by dsimp only; omega, fun _ => by dsimp only; omega⟩
        · split
          · exact ⟨h7.1, h7.2, by dsimp only; omega, by dsimp only; omega, fun _ => by dsimp only; omega⟩
          · exact ⟨hp, Nat.le_refl _, by dsimp only; omega, by dsimp only; omega, fun _ => by dsimp only; omega⟩
  · rw [if_pos he]
    exact ⟨hp, Nat.le_refl _, by dsimp only; omega, by dsimp only; omega, fun h => absurd h he⟩
/-- The error that block g's reader has. -/
def eOf (g : Nat) (w : World) : Nat := match w.cell? ⟨g, 2, none⟩ with | some (.int _ z) => if z = 0 then 1 else 0 | _ => 0
theorem FS.eOf {w : World} {k g n c p most : Nat} {e : Int} {A : Option Addr} {v : Value} {out : List Int} {ts : Nat → Prop} (h : FS w k g ts A n c p e v out most) : eOf g w = if e = 0 then 1 else 0 := by
  unfold Proofs.Ytginbilakdenmaa.eOf
  rw [h.bs.c2]
end Go.Proofs.Ytginbilakdenmaa
