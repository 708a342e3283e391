/- Contracts of functions that the law calls, and what they lean on (a part). -/
import Derived.Test.YtpomkhcobpihmaaGreatPas40
import Derived.Test.YtpomkhcobpihmaaGreatPas42
namespace Go.Proofs.YtpomkhcobpihmaaGreat
section
open Go.RowKit
set_option linter.unusedVariables false
set_option maxRecDepth 100000
def strLen : ByteArray := ⟨#[76, 101, 110, 103, 116, 104]⟩
def strStm : ByteArray := ⟨#[115, 116, 114, 101, 97, 109]⟩
def strEnO : ByteArray := ⟨#[101, 110, 100, 111, 98, 106]⟩
def lenO (x : Ob) : Ob := getF x strLen
def Ob.num : Ob → Int
  | .mk _ n _ _ _ => n
/-- A dictionary with data: a stream. -/
def strmO (b : List Int) : Ob → Ob
  | .mk _ n _ l d => .mk 8 n b l (dropE [strLen] d)
/-- What stands behind a dictionary and the word stream. -/
def strT (zs : List Int) (R : Rt) : Rt :=
  if (dataT zs (kwP zs R.q strStm) (lenO R.x).kind (lenO R.x).num).1 ≠ 0 then noR (dataT zs (kwP zs R.q strStm) (lenO R.x).kind (lenO R.x).num).1 (dataT zs (kwP zs R.q strStm) (lenO R.x).kind (lenO R.x).num).2.2
  else ⟨0, strmO (dataT zs (kwP zs R.q strStm) (lenO R.x).kind (lenO R.x).num).2.1 R.x, (dataT zs (kwP zs R.q strStm) (lenO R.x).kind (lenO R.x).num).2.2⟩
def stmB (zs : List Int) (R : Rt) : Bool := decide (R.e = 0) && (decide (R.x.kind = 7) && kwB zs R.q strStm)
/-- An item's object, with what is behind R. -/
def bodyT (zs : List Int) (R : Rt) : Rt := if stmB zs R = true then strT zs R else R
/-- An item: its number; its object, what is wrong, where one stands. -/
structure It13 where
  num : Int
  r : Rt
def itemT (zs : List Int) (f d p : Nat) : It13 :=
  if (headT zs p).2.1 ≠ 0 then ⟨0, noR (headT zs p).2.1 (headT zs p).2.2⟩
  else if (bodyT zs (parF zs f .val d (headT zs p).2.2)).e ≠ 0 then ⟨0, noR (bodyT zs (parF zs f .val d (headT zs p).2.2)).e (bodyT zs (parF zs f .val d (headT zs p).2.2)).q⟩
  else if (wrdT zs (bodyT zs (parF zs f .val d (headT zs p).2.2)).q strEnO).1 ≠ 0 then ⟨0, noR (wrdT zs (bodyT zs (parF zs f .val d (headT zs p).2.2)).q strEnO).1 (wrdT zs (bodyT zs (parF zs f .val d (headT zs p).2.2)).q strEnO).2⟩
  else ⟨(headT zs p).1, ⟨0, (bodyT zs (parF zs f .val d (headT zs p).2.2)).x, (wrdT zs (bodyT zs (parF zs f .val d (headT zs p).2.2)).q strEnO).2⟩⟩
theorem dropE_len (ks : List ByteArray) (d : Ens) : (dropE ks d).len ≤ d.len := by
  unfold dropE
  rw [Ens.ofL_len, ← Ens.toL_len]
  exact List.length_filter_le _ _
theorem wd_nul (W : Nat) : wdO W nulO := by
  unfold nulO wdO
  exact ⟨by simp, by simp [Obs.len, Ens.len], by unfold wdL; trivial, by unfold wdE; trivial⟩
theorem dropE_g {W D : Nat} (s : ByteArray) (hs : s.size ≤ 1000000) (hD : 1 ≤ D) {d : Ens} (h : gE W D d) : gE W D (dropE [s] d) := by
  rw [← with_drop]; exact gE_with W D s nulO hs ⟨wd_nul W, by unfold nulO; rw [htO, htL, htE]; omega⟩ d true h
/-- What the project's Drop asks of a dictionary that was read. -/
theorem g_parts {W D : Nat} {k n : Int} {b : List Int} {l : Obs} {d : Ens} (h : gO W D (.mk k n b l d)) : wdO W (.mk k n b l d) ∧ wdE W d ∧ htE d ≤ D ∧ (∀ p ∈ d.toL, p.1.size ≤ 1000000) ∧ d.len ≤ W ∧ wdO W (.mk k n b l (dropE [strLen] d)) ∧ (1 ≤ D → htO (.mk k n b l (dropE [strLen] d)) ≤ D + 1) := by
  obtain ⟨h1, h2, h3⟩ := h
  have h1' := h1
  unfold wdO at h1
  obtain ⟨ha, hb, hc, hd⟩ := h1
  rw [htO] at h2
  refine ⟨h1', hd, by omega, h3, by omega, ?_, fun hD => ?_⟩
  · have := (dropE_g (W := W) (D := max 1 (htE d)) strLen (by decide) (by omega) ⟨hd, by omega, h3⟩).1
    have := dropE_len [strLen] d
    unfold wdO
    exact ⟨ha, by omega, hc, by assumption⟩
  · have := (dropE_g (W := W) (D := max 1 (htE d)) strLen (by decide) (by omega) ⟨hd, by omega, h3⟩).2.1
    rw [htO]
    omega
end

section
open Go.RowKit
set_option linter.unusedVariables false
set_option maxRecDepth 100000
def shB (s : Nat) (R : Rt) : Rt := ⟨R.e, R.x, s + R.q⟩
theorem stB_shift (zs : List Int) (s p : Nat) (t : ByteArray) (hs : s ≤ zs.length) : stB zs (s + p) t = stB (zs.drop s) p t := by
  unfold stB
  rw [List.drop_drop, List.length_drop]
  congr 1
  exact decide_eq_decide.2 (by omega)
theorem kwB_shift (zs : List Int) (s p : Nat) (t : ByteArray) (hs : s ≤ zs.length) : kwB zs (s + p) t = kwB (zs.drop s) p t := by
  unfold kwB
  rw [blkP_shift, stB_shift zs s _ t hs]
  have h := peek_drop zs s (blkP (zs.drop s) p + t.size)
  rw [show (((s + blkP (zs.drop s) p : Nat) : Int) + (t.size : Int)) = ((s + (blkP (zs.drop s) p + t.size) : Nat) : Int) by omega, h, Int.natCast_add]
theorem kwP_shift (zs : List Int) (s p : Nat) (t : ByteArray) (hs : s ≤ zs.length) : kwP zs (s + p) t = s + kwP (zs.drop s) p t := by
  unfold kwP
  rw [kwB_shift zs s p t hs, blkP_shift]
  split <;> omega
theorem refB_shift (zs : List Int) (s q : Nat) (hs : s ≤ zs.length) : refB zs (s + q) = refB (zs.drop s) q := by
  unfold refB
  rw [tokT_shift]
  unfold shT
  dsimp only
  rw [kwB_shift zs s _ strR hs]
theorem wholeR_shift (zs : List Int) (v : Int) (s q : Nat) (hs : s ≤ zs.length) : wholeR zs v (s + q) = shB s (wholeR (zs.drop s) v q) := by
  unfold wholeR
  rw [refB_shift zs s q hs]
  split
  · rw [tokT_shift]
    unfold shT shB
    dsimp only
    rw [kwP_shift zs s _ strR hs]
  · rfl
theorem wordR_shift (b : List Int) (a s q : Nat) : wordR b (s + a) (s + q) = shB s (wordR b a q) := by
  unfold wordR
  split
  · rfl
  split
  · rfl
  split
  · rfl
  · rfl
theorem begR_shift (zs : List Int) (s : Nat) (hs : s ≤ zs.length) (its ens its2 ens2 : Nat → Nat → Rt) (t : Tk) (a d : Nat) (h1 : ∀ d q, its d (s + q) = shB s (its2 d q)) (h2 : ∀ d q, ens d (s + q) = shB s (ens2 d q)) :
    begR zs its ens (shT s t) (s + a) d = shB s (begR (zs.drop s) its2 ens2 t a d) := by
  unfold begR shT
  dsimp only
  split
  · exact wholeR_shift zs _ s _ hs
  split
  · rfl
  split
  · rfl
  split
  · rfl
  split
  · exact wordR_shift _ _ _ _
  split
  · split
    · rfl
    · exact h1 _ _
  split
  · split
    · rfl
    · exact h2 _ _
  split
  · rfl
  · rfl
theorem parF_shift (zs : List Int) (s : Nat) (hs : s ≤ zs.length) : ∀ (f : Nat) (m : Md) (d p : Nat), parF zs f m d (s + p) = shB s (parF (zs.drop s) f m d p)
  | 0, m, d, p => by rw [parF, parF]; rfl
  | f + 1, .val, d, p => by
    have hb := begR_shift zs s hs (fun d q => parF zs f (.its .nil) d q) (fun d q => parF zs f (.ens .nil) d q) (fun d q => parF (zs.drop s) f (.its .nil) d q) (fun d q => parF (zs.drop s) f (.ens .nil) d q) (tokT (zs.drop s) p) (blkP (zs.drop s) p) d (fun d q => parF_shift zs s hs f _ d q) (fun d q => parF_shift zs s hs f _ d q)
    rw [parF, parF, tokT_shift, blkP_shift, hb]
    unfold shT
    dsimp only
    split
    · rfl
    · rfl
  | f + 1, .its l, d, p => by
    have hb := begR_shift zs s hs (fun d q => parF zs f (.its .nil) d q) (fun d q => parF zs f (.ens .nil) d q) (fun d q => parF (zs.drop s) f (.its .nil) d q) (fun d q => parF (zs.drop s) f (.ens .nil) d q) (tokT (zs.drop s) p) (blkP (zs.drop s) p) d (fun d q => parF_shift zs s hs f _ d q) (fun d q => parF_shift zs s hs f _ d q)
    rw [parF, parF, tokT_shift, blkP_shift, hb]
    obtain ⟨R, hR⟩ : ∃ R, begR (zs.drop s) (fun d q => parF (zs.drop s) f (.its .nil) d q) (fun d q => parF (zs.drop s) f (.ens .nil) d q) (tokT (zs.drop s) p) (blkP (zs.drop s) p) d = R := ⟨_, rfl⟩
    rw [hR]
    unfold shT
    have hx : (shB s R).x = R.x := rfl
    have he : (shB s R).e = R.e := rfl
    have hq : (shB s R).q = s + R.q := rfl
    rw [hx, he, hq]
    dsimp only
    split
    · rfl
    split
    · rfl
    split
    · rfl
    · exact parF_shift zs s hs f _ d _
  | f + 1, .ens l, d, p => by
    have hv := parF_shift zs s hs f .val d (tokT (zs.drop s) p).q
    rw [parF, parF, tokT_shift, blkP_shift]
    unfold shT
    dsimp only
    rw [hv]
    obtain ⟨R, hR⟩ : ∃ R, parF (zs.drop s) f .val d (tokT (zs.drop s) p).q = R := ⟨_, rfl⟩
    rw [hR]
    have hx : (shB s R).x = R.x := rfl
    have he : (shB s R).e = R.e := rfl
    have hq : (shB s R).q = s + R.q := rfl
    rw [hx, he, hq]
    split
    · rfl
    split
    · rfl
    split
    · rfl
    split
    · rfl
    split
    · rfl
    · exact parF_shift zs s hs f _ d _
theorem parF_blk (zs : List Int) (f : Nat) (m : Md) (d a b : Nat) (h : blkP zs a = blkP zs b) : parF zs (f + 1) m d a = parF zs (f + 1) m d b := by
  cases m <;> rw [parF, parF, tokT_blk zs a b h, h]
def shN (s : Nat) (r : Int × Int × Nat) : Int × Int × Nat := (r.1, r.2.1, s + r.2.2)
theorem numT_shift (zs : List Int) (s p : Nat) (lo hi : Int) : numT zs (s + p) lo hi = shN s (numT (zs.drop s) p lo hi) := by
  unfold numT
  rw [tokT_shift, blkP_shift]
  unfold shT
  dsimp only
  split
  · rfl
  split
  · rfl
  · rfl
theorem wrdT_shift (zs : List Int) (s p : Nat) (t : ByteArray) : wrdT zs (s + p) t = ((wrdT (zs.drop s) p t).1, s + (wrdT (zs.drop s) p t).2) := by
  unfold wrdT
  rw [tokT_shift, blkP_shift]
  unfold shT
  dsimp only
  split
  · rfl
  split
  · rfl
  · rfl
theorem headT_shift (zs : List Int) (s p : Nat) : headT zs (s + p) = shN s (headT (zs.drop s) p) := by
  unfold headT
  rw [numT_shift]
  obtain ⟨N, hN⟩ : ∃ N, numT (zs.drop s) p 1 8388607 = N := ⟨_, rfl⟩
  rw [hN]
  unfold shN
  dsimp only
  rw [numT_shift]
  obtain ⟨M, hM⟩ : ∃ M, numT (zs.drop s) N.2.2 0 0 = M := ⟨_, rfl⟩
  rw [hM]
  unfold shN
  dsimp only
  rw [wrdT_shift]
  split
  · rfl
  split
  · rfl
  split
  · rfl
  · rfl
theorem lineT_shift (zs : List Int) (s p : Nat) (hs : s ≤ zs.length) : lineT zs (s + p) = ((lineT (zs.drop s) p).1, s + (lineT (zs.drop s) p).2) := by
  unfold lineT
  rw [stB_shift zs s p _ hs, stB_shift zs s p _ hs]
  split
  · rfl
  split
  · rfl
  · by_cases h : (zs.drop s).length ≤ p
    · rw [if_pos h, if_pos (by rw [List.length_drop] at h; omega)]
    · rw [if_neg h, if_neg (by rw [List.length_drop] at h; omega)]
def shD (s : Nat) (r : Int × List Int × Nat) : Int × List Int × Nat := (r.1, r.2.1, s + r.2.2)
theorem dataT_shift (zs : List Int) (s p : Nat) (k v : Int) (hs : s ≤ zs.length) : dataT zs (s + p) k v = shD s (dataT (zs.drop s) p k v) := by
  unfold dataT
  rw [lineT_shift zs s p hs]
  obtain ⟨L, hL⟩ : ∃ L, lineT (zs.drop s) p = L := ⟨_, rfl⟩
  rw [hL]
  dsimp only
  rw [Nat.add_assoc, wrdT_shift, ← List.drop_drop]
  dsimp only
  split
  · rfl
  split
  · rfl
  · by_cases h : ((zs.drop s).length : Int) - L.2 < v
    · rw [if_pos h, if_pos (by rw [List.length_drop] at h; omega)]
      rfl
    · rw [if_neg h, if_neg (by rw [List.length_drop] at h; omega)]
      split
      · rfl
      · rfl
theorem bodyT_shift (zs : List Int) (s : Nat) (R : Rt) (hs : s ≤ zs.length) : bodyT zs (shB s R) = shB s (bodyT (zs.drop s) R) := by
  unfold bodyT stmB strT
  have hx : (shB s R).x = R.x := rfl
  have he : (shB s R).e = R.e := rfl
  have hq : (shB s R).q = s + R.q := rfl
  rw [hx, he, hq, kwB_shift zs s _ _ hs, kwP_shift zs s _ _ hs, dataT_shift zs s _ _ _ hs]
  unfold shD
  dsimp only
  split
  · split
    · rfl
    · rfl
  · rfl
theorem itemT_shift (zs : List Int) (s f d p : Nat) (hs : s ≤ zs.length) : itemT zs f d (s + p) = ⟨(itemT (zs.drop s) f d p).num, shB s (itemT (zs.drop s) f d p).r⟩ := by
  unfold itemT
  rw [headT_shift]
  obtain ⟨H, hH⟩ : ∃ H, headT (zs.drop s) p = H := ⟨_, rfl⟩
  rw [hH]
  unfold shN
  dsimp only
  rw [parF_shift zs s hs, bodyT_shift zs s _ hs]
  obtain ⟨B, hB⟩ : ∃ B, bodyT (zs.drop s) (parF (zs.drop s) f .val d H.2.2) = B := ⟨_, rfl⟩
  rw [hB]
  have hx : (shB s B).x = B.x := rfl
  have he : (shB s B).e = B.e := rfl
  have hq : (shB s B).q = s + B.q := rfl
  rw [hx, he, hq, wrdT_shift]
  dsimp only
  split
  · rfl
  split
  · rfl
  split
  · rfl
  · rfl
end

section
open Go.RowKit
set_option linter.unusedVariables false
set_option maxRecDepth 100000
theorem byt_any {W : World} {S : Nat → Prop} {B lo : Nat} {A : Option Addr} {l c : Nat} {b : List Int} (hy : Byt W B A l c b) (hf : From lo A l) (hl : b.length ≤ 1000000) (hS : ∀ y, lo ≤ y → y < B → S y) : BytS W S A l c b :=
  ⟨hy.len, ⟨hy.cap, by have := hy.len; omega⟩, hy.rng, fun hn => by
    obtain ⟨b', o, e, hlt, hc⟩ := hy.cell hn
    have := hf hn b' o e
    exact ⟨b', o, e, hS _ (by omega) hlt, hc⟩⟩
theorem ob_stm {W W' : World} {S S' : Nat → Prop} {n : Int} {b Z : List Int} {l : Obs} {d : Ens} {e0 e1 e2 e3 e4 : Value} {A' : Option Addr} {l' c' : Nat} (h : ObR W S (.mk 7 n b l d) e0 e1 e2 e3 e4) (hb : ∀ y, S y → W'.heap[y]? = W.heap[y]?) (hS : ∀ y, S y → S' y) (hB : BytS W' S' A' l' c' Z) : ObR W' S' (.mk 8 n Z l d) (.int .i64 8) e1 (.slice A' l' c') e3 e4 := by
  have h' := ObR.keep hb hS _ h
  unfold ObR at h' ⊢
  obtain ⟨h0, h1, hk, hn, -, h3, h4⟩ := h'
  exact ⟨rfl, h1, by omega, hn, ⟨A', l', c', rfl, hB⟩, h3, h4⟩
theorem dataT_len (zs : List Int) (p : Nat) (k v : Int) : (dataT zs p k v).2.1.length ≤ zs.length := by
  unfold dataT
  split
  · simp
  split
  · simp
  split
  · simp
  split
  · simp
  · simp only [List.length_take, List.length_drop]; omega
theorem keys_one (W : World) (s : ByteArray) : KeysV (W.alloc (.cells #[.string s] 9)) (some ⟨W.heap.size, 0, none⟩) [s] := fun _ =>
  ⟨W.heap.size, 0, rfl, by simp, fun i t ht => by
    rcases i with _ | i
    · simp at ht; subst ht
      exact cell_of_row _ W.heap.size 0 _ _ (0, 0) (heap_alloc_new W _)
    · simp at ht⟩
end
end Go.Proofs.YtpomkhcobpihmaaGreat
