/- Contracts of functions that the law calls, and what they lean on (a part). -/
import Derived.Test.YtpomkhcobpihmaaGreatPak38
import Derived.Test.YtpomkhcobpihmaaGreatPak40
import Derived.Test.YtpomkhcobpihmaaGreatPak41
namespace Go.Proofs.YtpomkhcobpihmaaGreat
section
open Go.RowKit
set_option linter.unusedVariables false
set_option maxRecDepth 100000
def strLen : ByteArray := ⟨#[76, 101, 110, 103, 116, 104]⟩
def strStm : ByteArray := ⟨#[115, 116, 114, 101, 97, 109]⟩
def strEnO : ByteArray := ⟨#[101, 110, 100, 111, 98, 106]⟩
def lenO (x : Ob) : Ob := getF x strLen
def Ob.num : Ob → Int
  | .mk _ n _ _ _ => n
/-- A dictionary with data: a stream. -/
def strmO (b : List Int) : Ob → Ob
  | .mk _ n _ l d => .mk 8 n b l (dropE [strLen] d)
/-- What stands behind a dictionary and the word stream. -/
def strT (zs : List Int) (R : Rt) : Rt :=
  if (dataT zs (kwP zs R.q strStm) (lenO R.x).kind (lenO R.x).num).1 ≠ 0 then noR (dataT zs (kwP zs R.q strStm) (lenO R.x).kind (lenO R.x).num).1 (dataT zs (kwP zs R.q strStm) (lenO R.x).kind (lenO R.x).num).2.2
  else ⟨0, strmO (dataT zs (kwP zs R.q strStm) (lenO R.x).kind (lenO R.x).num).2.1 R.x, (dataT zs (kwP zs R.q strStm) (lenO R.x).kind (lenO R.x).num).2.2⟩
def stmB (zs : List Int) (R : Rt) : Bool := decide (R.e = 0) && (decide (R.x.kind = 7) && kwB zs R.q strStm)
/-- An item's object, with what is behind R. -/
def bodyT (zs : List Int) (R : Rt) : Rt := if stmB zs R = true then strT zs R else R
/-- An item: its number; its object, what is wrong, where one stands. -/
structure It13 where
  num : Int
  r : Rt
def itemT (zs : List Int) (f d p : Nat) : It13 :=
  if (headT zs p).2.1 ≠ 0 then ⟨0, noR (headT zs p).2.1 (headT zs p).2.2⟩
  else if (bodyT zs (parF zs f .val d (headT zs p).2.2)).e ≠ 0 then ⟨0, noR (bodyT zs (parF zs f .val d (headT zs p).2.2)).e (bodyT zs (parF zs f .val d (headT zs p).2.2)).q⟩
  else if (wrdT zs (bodyT zs (parF zs f .val d (headT zs p).2.2)).q strEnO).1 ≠ 0 then ⟨0, noR (wrdT zs (bodyT zs (parF zs f .val d (headT zs p).2.2)).q strEnO).1 (wrdT zs (bodyT zs (parF zs f .val d (headT zs p).2.2)).q strEnO).2⟩
  else ⟨(headT zs p).1, ⟨0, (bodyT zs (parF zs f .val d (headT zs p).2.2)).x, (wrdT zs (bodyT zs (parF zs f .val d (headT zs p).2.2)).q strEnO).2⟩⟩
theorem dropE_len (ks : List ByteArray) (d : Ens) : (dropE ks d).len ≤ d.len := by
  unfold dropE
  rw [Ens.ofL_len, ← Ens.toL_len]
  exact List.length_filter_le _ _
theorem wd_nul (W : Nat) : wdO W nulO := by
  unfold nulO wdO
  exact ⟨by simp, by simp [Obs.len, Ens.len], by unfold wdL; trivial, by unfold wdE; trivial⟩
theorem dropE_g {W D : Nat} (s : ByteArray) (hs : s.size ≤ 1000000) (hD : 1 ≤ D) {d : Ens} (h : gE W D d) : gE W D (dropE [s] d) := by
  rw [← with_drop]; exact gE_with W D s nulO hs ⟨wd_nul W, by unfold nulO; rw [htO, htL, htE]; omega⟩ d true h
/-- What the project's Drop asks of a dictionary that was read. -/
theorem g_parts {W D : Nat} {k n : Int} {b : List Int} {l : Obs} {d : Ens} (h : gO W D (.mk k n b l d)) : wdO W (.mk k n b l d) ∧ wdE W d ∧ htE d ≤ D ∧ (∀ p ∈ d.toL, p.1.size ≤ 1000000) ∧ d.len ≤ W ∧ wdO W (.mk k n b l (dropE [strLen] d)) ∧ (1 ≤ D → htO (.mk k n b l (dropE [strLen] d)) ≤ D + 1) := by
  obtain ⟨h1, h2, h3⟩ := h
  have h1' := h1
  unfold wdO at h1
  obtain ⟨ha, hb, hc, hd⟩ := h1
  rw [htO] at h2
  refine ⟨h1', hd, by omega, h3, by omega, ?_, fun hD => ?_⟩
  · have := (dropE_g (W := W) (D := max 1 (htE d)) strLen (by decide) (by omega) ⟨hd, by omega, h3⟩).1
    have := dropE_len [strLen] d
    unfold wdO
    exact ⟨ha, by omega, hc, by assumption⟩
  · have := (dropE_g (W := W) (D := max 1 (htE d)) strLen (by decide) (by omega) ⟨hd, by omega, h3⟩).2.1
    rw [htO]
    omega
end

section
open Go.RowKit
set_option linter.unusedVariables false
set_option maxRecDepth 100000
theorem byt_any {W : World} {S : Nat → Prop} {B lo : Nat} {A : Option Addr} {l c : Nat} {b : List Int} (hy : Byt W B A l c b) (hf : From lo A l) (hl : b.length ≤ 1000000) (hS : ∀ y, lo ≤ y → y < B → S y) : BytS W S A l c b :=
  ⟨hy.len, ⟨hy.cap, by have := hy.len; omega⟩, hy.rng, fun hn => by
    obtain ⟨b', o, e, hlt, hc⟩ := hy.cell hn
    have := hf hn b' o e
    exact ⟨b', o, e, hS _ (by omega) hlt, hc⟩⟩
theorem ob_stm {W W' : World} {S S' : Nat → Prop} {n : Int} {b Z : List Int} {l : Obs} {d : Ens} {e0 e1 e2 e3 e4 : Value} {A' : Option Addr} {l' c' : Nat} (h : ObR W S (.mk 7 n b l d) e0 e1 e2 e3 e4) (hb : ∀ y, S y → W'.heap[y]? = W.heap[y]?) (hS : ∀ y, S y → S' y) (hB : BytS W' S' A' l' c' Z) : ObR W' S' (.mk 8 n Z l d) (.int .i64 8) e1 (.slice A' l' c') e3 e4 := by
  have h' := ObR.keep hb hS _ h
  unfold ObR at h' ⊢
  obtain ⟨h0, h1, hk, hn, -, h3, h4⟩ := h'
  exact ⟨rfl, h1, by omega, hn, ⟨A', l', c', rfl, hB⟩, h3, h4⟩
theorem dataT_len (zs : List Int) (p : Nat) (k v : Int) : (dataT zs p k v).2.1.length ≤ zs.length := by
  unfold dataT
  split
  · simp
  split
  · simp
  split
  · simp
  split
  · simp
  · simp only [List.length_take, List.length_drop]; omega
theorem keys_one (W : World) (s : ByteArray) : KeysV (W.alloc (.cells #[.string s] 9)) (some ⟨W.heap.size, 0, none⟩) [s] := fun _ =>
  ⟨W.heap.size, 0, rfl, by simp, fun i t ht => by
    rcases i with _ | i
    · simp at ht; subst ht
      exact cell_of_row _ W.heap.size 0 _ _ (0, 0) (heap_alloc_new W _)
    · simp at ht⟩
end
end Go.Proofs.YtpomkhcobpihmaaGreat
