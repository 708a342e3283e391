/- The document's own Blocks (chapter 4): what it answers. -/
import Derived.Test.YtginbilakdenmaaRef4Dyn
namespace Go.Proofs.Ytginbilakdenmaa
open Go.RowKit
set_option linter.unusedVariables false
set_option maxRecDepth 100000

/-- One block behind its three bits, by its kind: where the reader stands then, its error, what came. -/
def kindS (zs : List Int) (most p : Nat) (kind : Int) (out : List Int) : Nat × Int × List Int :=
  if kind = 0 then storedS zs most p out
  else if kind = 1 then codedR zs fixLs (codesS fixLs) fixDs (codesS fixDs) most (8 * zs.length + 1) p 0 out
  else if kind = 2 then
    if (dynS zs p).2.1 = 0 then codedR zs (dynS zs p).2.2.1 (codesS (dynS zs p).2.2.1) (dynS zs p).2.2.2 (codesS (dynS zs p).2.2.2) most (8 * zs.length + 1) (dynS zs p).1 0 out
    else ((dynS zs p).1, (dynS zs p).2.1, out)
  else (p, 4, out)
def blockS (zs : List Int) (most p : Nat) (out : List Int) : Nat × Int × List Int :=
  if (takeS zs (takeS zs p 0 1).2.1 (takeS zs p 0 1).2.2 2).2.2 = 0 then kindS zs most (takeS zs (takeS zs p 0 1).2.1 (takeS zs p 0 1).2.2 2).2.1 (takeS zs (takeS zs p 0 1).2.1 (takeS zs p 0 1).2.2 2).1 out
  else ((takeS zs (takeS zs p 0 1).2.1 (takeS zs p 0 1).2.2 2).2.1, (takeS zs (takeS zs p 0 1).2.1 (takeS zs p 0 1).2.2 2).2.2, out)
/-- Block by block: what comes, of how many bytes, the error. -/
def blocksR (zs : List Int) (most : Nat) : Nat → Nat → List Int → List Int × Nat × Int
  | 0, _, _ => ([], 0, 2)
  | F + 1, p, out =>
    if ¬ (blockS zs most p out).2.1 = 0 then ([], 0, (blockS zs most p out).2.1)
    else if (takeS zs p 0 1).1 = 1 then ((blockS zs most p out).2.2, ((blockS zs most p out).1 + 7) / 8, 0)
    else blocksR zs most F (blockS zs most p out).1 (blockS zs most p out).2.2
def blocksS (zs : List Int) (most : Nat) : List Int × Nat × Int := blocksR zs most (8 * zs.length + 1) 0 []

theorem storR_p (zs : List Int) (most : Nat) : ∀ (k p : Nat) (e : Int) (out : List Int), p ≤ 8 * zs.length → (storR zs most k p e out).1 ≤ 8 * zs.length ∧ p ≤ (storR zs most k p e out).1
  | 0, p, e, out, h => ⟨h, Nat.le_refl _⟩
  | k + 1, p, e, out, h => by
    rw [storR]
    split
    · have h1 := takeS_p zs p e 8 h
      have h2 := storR_p zs most k _ (putE most out (takeS zs p e 8).2.2) (putO most out (takeS zs p e 8).2.2 (takeS zs p e 8).1) h1.1
      exact ⟨h2.1, Nat.le_trans h1.2 h2.2⟩
    · exact ⟨h, Nat.le_refl _⟩
theorem algn_p (zs : List Int) (p : Nat) (h : p ≤ 8 * zs.length) : algn p ≤ 8 * zs.length ∧ p ≤ algn p := by unfold algn; omega
theorem storedS_p (zs : List Int) (most p : Nat) (out : List Int) (h : p ≤ 8 * zs.length) : (storedS zs most p out).1 ≤ 8 * zs.length ∧ p ≤ (storedS zs most p out).1 := by
  unfold storedS
  have h0 := algn_p zs p h
  have h1 := takeS_p zs (algn p) 0 16 h0.1
  have h2 := takeS_p zs (takeS zs (algn p) 0 16).2.1 (takeS zs (algn p) 0 16).2.2 16 h1.1
  dsimp only
  refine (fun h3 => ⟨h3.1, Nat.le_trans h0.2 (Nat.le_trans h1.2 (Nat.le_trans h2.2 h3.2))⟩) (storR_p zs most _ _ _ _ h2.1)
theorem codedR_p (zs l lc d dc : List Int) (most : Nat) : ∀ (F p : Nat) (e : Int) (out : List Int), p ≤ 8 * zs.length → (codedR zs l lc d dc most F p e out).1 ≤ 8 * zs.length ∧ p ≤ (codedR zs l lc d dc most F p e out).1
  | 0, p, e, out, h => ⟨h, Nat.le_refl _⟩
  | F + 1, p, e, out, h => by
    rw [codedR]
    have h1 := symR_p zs l lc 15 1 0 p h
    have h2 := lenS_p zs (symR zs l lc 15 1 0 p).2.1 0 (symR zs l lc 15 1 0 p).1.toNat h1.1
    have h3 := symS_p zs d dc (lenS zs (symR zs l lc 15 1 0 p).2.1 0 (symR zs l lc 15 1 0 p).1.toNat).2.1 (lenS zs (symR zs l lc 15 1 0 p).2.1 0 (symR zs l lc 15 1 0 p).1.toNat).2.2 h2.1
    have h4 := disS_p zs (symS zs d dc (lenS zs (symR zs l lc 15 1 0 p).2.1 0 (symR zs l lc 15 1 0 p).1.toNat).2.1 (lenS zs (symR zs l lc 15 1 0 p).2.1 0 (symR zs l lc 15 1 0 p).1.toNat).2.2).2.1 0 (symS zs d dc (lenS zs (symR zs l lc 15 1 0 p).2.1 0 (symR zs l lc 15 1 0 p).1.toNat).2.1 (lenS zs (symR zs l lc 15 1 0 p).2.1 0 (symR zs l lc 15 1 0 p).1.toNat).2.2).1.toNat h3.1
    dsimp only
    split
    · exact ⟨h, Nat.le_refl _⟩
    · split
      · exact h1
      · split
        · have h5 := codedR_p zs l lc d dc most F _ (putE most out 0) (putO most out 0 (symR zs l lc 15 1 0 p).1) h1.1
          exact ⟨h5.1, Nat.le_trans h1.2 h5.2⟩
        · split
          · exact h1
          · split
            · exact ⟨h3.1, by omega⟩
            · split
              · exact ⟨h3.1, by omega⟩
              · refine (fun h5 => ⟨h5.1, Nat.le_trans (by omega) h5.2⟩) (codedR_p zs l lc d dc most F _ _ _ h4.1)
theorem clR_ge (zs : List Int) : ∀ (k i p : Nat) (e : Int) (cl : List Int), p ≤ 8 * zs.length → p ≤ (clR zs k i p e cl).1
  | 0, _, _, _, _, _ => Nat.le_refl _
  | k + 1, i, p, e, cl, h => by
    rw [clR]
    have h1 := takeS_p zs p e 3 h
    exact Nat.le_trans h1.2 (clR_ge zs k _ _ _ _ h1.1)
theorem repS_p (zs : List Int) (s : Int) (l : List Int) (p : Nat) (e : Int) (hp : p ≤ 8 * zs.length) : (repS zs s l p e).2.2.1 ≤ 8 * zs.length ∧ p ≤ (repS zs s l p e).2.2.1 := by
  have h2 := takeS_p zs p 0 2 hp
  have h3 := takeS_p zs p 0 3 hp
  have h7 := takeS_p zs p 0 7 hp
  unfold repS
  split
  · exact ⟨hp, Nat.le_refl _⟩
  · split
    · exact ⟨hp, Nat.le_refl _⟩
    · split
      · exact h2
      · split
        · exact h3
        · split
          · exact h7
          · exact ⟨hp, Nat.le_refl _⟩
theorem rowsR_p (zs cl cs : List Int) (tot : Nat) : ∀ (F p : Nat) (e : Int) (l : List Int), p ≤ 8 * zs.length → (rowsR zs cl cs tot F p e l).1 ≤ 8 * zs.length ∧ p ≤ (rowsR zs cl cs tot F p e l).1
  | 0, p, e, l, h => ⟨h, Nat.le_refl _⟩
  | F + 1, p, e, l, h => by
    rw [rowsR]
    split
    · have h1 := symS_p zs cl cs p 0 h
      have h2 := repS_p zs (symS zs cl cs p 0).1 l (symS zs cl cs p 0).2.1 (symS zs cl cs p 0).2.2 h1.1
      dsimp only
      refine (fun h3 => ⟨h3.1, Nat.le_trans h1.2 (Nat.le_trans h2.2 h3.2)⟩) (rowsR_p zs cl cs tot F _ _ _ h2.1)
    · exact ⟨h, Nat.le_refl _⟩
theorem dynS_p (zs : List Int) (p : Nat) (h : p ≤ 8 * zs.length) : (dynS zs p).1 ≤ 8 * zs.length ∧ p ≤ (dynS zs p).1 := by
  unfold dynS
  dsimp only
  obtain ⟨a, ha⟩ : ∃ a, takeS zs p 0 5 = a := ⟨_, rfl⟩
  have h1 := takeS_p zs p 0 5 h
  rw [ha] at h1 ⊢
  obtain ⟨e1, he1⟩ : ∃ e : Int, (if a.2.2 = 0 ∧ 286 < a.1 + 257 then 4 else a.2.2) = e := ⟨_, rfl⟩
  rw [he1]
  obtain ⟨b, hb⟩ : ∃ b, takeS zs a.2.1 e1 5 = b := ⟨_, rfl⟩
  have h2 := takeS_p zs a.2.1 e1 5 h1.1
  rw [hb] at h2 ⊢
  obtain ⟨e2, he2⟩ : ∃ e : Int, (if b.2.2 = 0 ∧ 30 < b.1 + 1 then 4 else b.2.2) = e := ⟨_, rfl⟩
  rw [he2]
  obtain ⟨c, hc⟩ : ∃ c, takeS zs b.2.1 e2 4 = c := ⟨_, rfl⟩
  have h3 := takeS_p zs b.2.1 e2 4 h2.1
  rw [hc] at h3 ⊢
  obtain ⟨d, hd⟩ : ∃ d, clR zs (c.1 + 4).toNat 0 c.2.1 c.2.2 (List.replicate 19 0) = d := ⟨_, rfl⟩
  have h4 := clR_p zs (c.1 + 4).toNat 0 c.2.1 c.2.2 (List.replicate 19 0) h3.1
  have h5 := clR_ge zs (c.1 + 4).toNat 0 c.2.1 c.2.2 (List.replicate 19 0) h3.1
  rw [hd] at h4 h5 ⊢
  obtain ⟨r, hr⟩ : ∃ r, rowsR zs d.2.2 (codesS d.2.2) (a.1 + 257 + (b.1 + 1)).toNat ((a.1 + 257 + (b.1 + 1)).toNat + 1) d.1 (if d.2.1 = 0 ∧ mayS d.2.2 = false then 4 else d.2.1) [] = r := ⟨_, rfl⟩
  have h6 := rowsR_p zs d.2.2 (codesS d.2.2) (a.1 + 257 + (b.1 + 1)).toNat ((a.1 + 257 + (b.1 + 1)).toNat + 1) d.1 (if d.2.1 = 0 ∧ mayS d.2.2 = false then 4 else d.2.1) [] h4
  rw [hr] at h6 ⊢
  split
  · exact ⟨h6.1, by show p ≤ r.1; omega⟩
  · exact ⟨h6.1, by show p ≤ r.1; omega⟩
theorem kindS_p (zs : List Int) (most p : Nat) (kind : Int) (out : List Int) (h : p ≤ 8 * zs.length) : (kindS zs most p kind out).1 ≤ 8 * zs.length ∧ p ≤ (kindS zs most p kind out).1 := by
  unfold kindS
  split
  · exact storedS_p zs most p out h
  · split
    · exact codedR_p zs _ _ _ _ most _ p 0 out h
    · split
      · have h1 := dynS_p zs p h
        split
        · refine (fun h5 => ⟨h5.1, Nat.le_trans h1.2 h5.2⟩) (codedR_p zs _ _ _ _ most _ _ 0 out h1.1)
        · exact h1
      · exact ⟨h, Nat.le_refl _⟩
theorem takeS_0 (zs : List Int) (p : Nat) (e : Int) (m : Nat) (h : (takeS zs p e m).2.2 = 0) : e = 0 ∧ (takeS zs p e m).2.1 = p + m ∧ p + m ≤ 8 * zs.length := by
  unfold takeS at h ⊢
  by_cases he : e = 0
  · rw [if_pos he] at h ⊢
    by_cases hlt : p + m ≤ 8 * zs.length
    · rw [if_pos hlt]
      exact ⟨he, rfl, hlt⟩
    · rw [if_neg hlt] at h
      exact absurd (show (2 : Int) = 0 from h) (by decide)
  · rw [if_neg he] at h
    exact absurd h he
/-- A block that went well is of three bits at least. -/
theorem blockS_p (zs : List Int) (most p : Nat) (out : List Int) (h : p ≤ 8 * zs.length) : (blockS zs most p out).1 ≤ 8 * zs.length ∧ p ≤ (blockS zs most p out).1 ∧ ((blockS zs most p out).2.1 = 0 → p + 3 ≤ (blockS zs most p out).1) := by
  unfold blockS
  have h1 := takeS_p zs p 0 1 h
  have h2 := takeS_p zs (takeS zs p 0 1).2.1 (takeS zs p 0 1).2.2 2 h1.1
  split
  · rename_i h0
    have h3 := takeS_0 zs _ _ 2 h0
    have h4 := takeS_0 zs p 0 1 h3.1
    have h5 := kindS_p zs most (takeS zs (takeS zs p 0 1).2.1 (takeS zs p 0 1).2.2 2).2.1 (takeS zs (takeS zs p 0 1).2.1 (takeS zs p 0 1).2.2 2).1 out h2.1
    have h6 := h5.2
    exact ⟨h5.1, by omega, fun _ => by omega⟩
  · rename_i h0
    exact ⟨h2.1, Nat.le_trans h1.2 h2.2, fun h => absurd h h0⟩
end Go.Proofs.Ytginbilakdenmaa
