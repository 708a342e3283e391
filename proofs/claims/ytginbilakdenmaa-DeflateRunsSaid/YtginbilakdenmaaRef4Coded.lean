/- The document's own flow (chapter 4): coded. -/
import Derived.Test.YtginbilakdenmaaRef4Fixed
namespace Go.Proofs.Ytginbilakdenmaa
open Go.RowKit
set_option linter.unusedVariables false
set_option maxRecDepth 100000

def copyR (most back : Nat) : Nat → Int → List Int → Int × List Int
  | 0, e, out => (e, out)
  | k + 1, e, out => if e = 0 then copyR most back k (putE most out 0) (putO most out 0 (out.getD (out.length - back) 0)) else (e, out)
theorem copyR_bad (most back k : Nat) (e : Int) (out : List Int) (he : ¬ e = 0) : copyR most back k e out = (e, out) := by
  cases k with
  | zero => rfl
  | succ k => rw [copyR, if_neg he]
/-- Symbols to a block's end: where the reader stands then, its error, what came. -/
def codedR (zs l lc d dc : List Int) (most : Nat) : Nat → Nat → Int → List Int → Nat × Int × List Int
  | 0, p, e, out => (p, e, out)
  | F + 1, p, e, out =>
    if ¬ e = 0 then (p, e, out)
    else
      let a := symR zs l lc 15 1 0 p
      if ¬ a.2.2 = 0 ∨ a.1 = 256 then (a.2.1, a.2.2, out)
      else if a.1 < 256 then codedR zs l lc d dc most F a.2.1 (putE most out 0) (putO most out 0 a.1)
      else if 285 < a.1 then (a.2.1, 4, out)
      else
        let L := lenS zs a.2.1 0 a.1.toNat
        let c := symS zs d dc L.2.1 L.2.2
        if ¬ c.2.2 = 0 then (c.2.1, c.2.2, out)
        else if 29 < c.1 then (c.2.1, 4, out)
        else
          let D := disS zs c.2.1 0 c.1.toNat
          let x := copyR most D.1.toNat L.1.toNat (if D.2.2 = 0 ∧ (out.length : Int) < D.1 then 4 else D.2.2) out
          codedR zs l lc d dc most F D.2.1 x.1 x.2
theorem codedR_bad (zs l lc d dc : List Int) (most F p : Nat) (e : Int) (out : List Int) (he : ¬ e = 0) : codedR zs l lc d dc most F p e out = (p, e, out) := by
  cases F with
  | zero => rfl
  | succ k => rw [codedR, if_pos he]
theorem symR_good (zs l cs : List Int) (k : Nat) (n v : Int) (p : Nat) (s : Int) (p' : Nat) (h : symR zs l cs k n v p = (s, p', 0)) : p < p' := by
  cases k with
  | zero => rw [symR] at h; cases h
  | succ k =>
    rw [symR] at h
    split at h
    · split at h
      · cases h; omega
      · have := (symR_p zs l cs k (n + 1) (2 * v + bitZ zs p) (p + 1) (by assumption)).2
        rw [h] at this
        dsimp only at this
        omega
    · cases h
theorem symS_p (zs l cs : List Int) (p : Nat) (e : Int) (h : p ≤ 8 * zs.length) : (symS zs l cs p e).2.1 ≤ 8 * zs.length ∧ p ≤ (symS zs l cs p e).2.1 := by
  unfold symS
  split
  · exact symR_p zs l cs _ _ _ p h
  · exact ⟨h, Nat.le_refl _⟩
theorem symS_v (zs l cs : List Int) (p : Nat) (e : Int) : 0 ≤ (symS zs l cs p e).1 := by
  unfold symS
  split
  · exact (symR_v zs l cs _ _ _ p).1
  · exact Int.le_refl _
theorem lenS_p (zs : List Int) (p : Nat) (e : Int) (s : Nat) (h : p ≤ 8 * zs.length) : (lenS zs p e s).2.1 ≤ 8 * zs.length ∧ p ≤ (lenS zs p e s).2.1 := by
  unfold lenS
  split
  · exact ⟨h, Nat.le_refl _⟩
  · exact takeS_p zs p e _ h
theorem disS_p (zs : List Int) (p : Nat) (e : Int) (s : Nat) (h : p ≤ 8 * zs.length) : (disS zs p e s).2.1 ≤ 8 * zs.length ∧ p ≤ (disS zs p e s).2.1 := by
  unfold disS
  split
  · exact ⟨h, Nat.le_refl _⟩
  · exact takeS_p zs p e _ h
theorem lenS_v (zs : List Int) (p : Nat) (e : Int) (s : Nat) (h1 : 257 ≤ s) (h2 : s ≤ 285) : 0 ≤ (lenS zs p e s).1 ∧ (lenS zs p e s).1 ≤ 300 := by
  have hb := lenB_bd ⟨s, by omega⟩ h1
  dsimp only at hb
  unfold lenS
  have hp := pow_le16 (lenE s) (by omega)
  split
  · dsimp only; omega
  · have := takeS_v zs p e (lenE s); dsimp only; omega
theorem disS_v (zs : List Int) (p : Nat) (e : Int) (s : Nat) (h2 : s ≤ 29) : 1 ≤ (disS zs p e s).1 ∧ (disS zs p e s).1 ≤ 40000 := by
  have hb := disB_bd ⟨s, by omega⟩
  dsimp only at hb
  unfold disS
  have hp := pow_le16 (disE s) (by omega)
  split
  · dsimp only; omega
  · have := takeS_v zs p e (disE s); dsimp only; omega
/-- Where the reader in block g stands. -/
def pOf (g : Nat) (w : World) : Nat := match w.cell? ⟨g, 1, none⟩ with | some (.int _ z) => z.toNat | _ => 0
theorem FS.pOf {w : World} {k g n c p most : Nat} {e : Int} {A : Option Addr} {v : Value} {out : List Int} {ts : Nat → Prop} (h : FS w k g ts A n c p e v out most) : pOf g w = p := by
  unfold Proofs.Ytginbilakdenmaa.pOf
  rw [h.bs.c1]
  exact Int.toNat_natCast p
theorem FS.own_lt {w : World} {k g n c p most : Nat} {e : Int} {A : Option Addr} {v : Value} {out : List Int} {ts : Nat → Prop} (h : FS w k g ts A n c p e v out most) (b : Nat) (hb : v.ownBlock = some b) : b < w.heap.size := by
  rcases h.row.own.2 with ⟨rfl, _⟩ | ⟨b', cap, cur, rfl, _, hh, _⟩
  · cases hb
  · injection hb with hb
    dsimp only at hb
    subst hb
    rcases Nat.lt_or_ge b' w.heap.size with hlt | hge
    · exact hlt
    · rw [Array.getElem?_eq_none hge] at hh; cases hh
/-- Blocks made since may be kept, too. -/
theorem FS.and {w w' : World} {k g n c p most : Nat} {e : Int} {A : Option Addr} {v : Value} {out : List Int} {ts : Nat → Prop} (h : FS w k g ts A n c p e v out most) (hb : Below w.heap.size w w') (us : Nat → Prop) (hu : ∀ i, us i → ts i ∨ (w.heap.size ≤ i ∧ i < w'.heap.size)) : FS w' k g us A n c p e v out most :=
  (h.more hb).with us fun i hi => by
    rcases hu i hi with h1 | h1
    · have := h.tb i h1
      exact ⟨Nat.lt_of_lt_of_le this hb.size, fun e => h.tk (e ▸ h1), fun e => h.tg (e ▸ h1), fun e => (h.own i e).1 h1⟩
    · have hk := h.lt
      have hg := h.bs.lt
      exact ⟨h1.2, by omega, by omega, fun e => by have := h.own_lt i e; omega⟩
theorem FS.sub {w : World} {k g n c p most : Nat} {e : Int} {A : Option Addr} {v : Value} {out : List Int} {ts us : Nat → Prop} (h : FS w k g us A n c p e v out most) (hs : ∀ i, ts i → us i) : FS w k g ts A n c p e v out most :=
  ⟨h.bs, h.fl, h.kg, h.row, fun b hb => ⟨fun ht => (h.own b hb).1 (hs b ht), (h.own b hb).2⟩, fun ht => h.tk (hs k ht), fun ht => h.tg (hs g ht), fun i hi => h.tb i (hs i hi)⟩
end Go.Proofs.Ytginbilakdenmaa
