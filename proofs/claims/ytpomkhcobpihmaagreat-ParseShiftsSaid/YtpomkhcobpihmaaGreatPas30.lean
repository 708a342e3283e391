/- Contracts of functions that the law calls, and what they lean on (a part). -/
import Derived.Sort.Defs
import Derived.Shelf.SlSortCmp.KitK
import Derived.WalkLawsBesides
import Derived.BigRegion
import Derived.Test.YtpomkhcobpihmaaGreatPas26
namespace Go.Proofs.YtpomkhcobpihmaaGreat
section
open Go.RowKit
open Go.RowKit Go.Sort
set_option linter.unusedVariables false
set_option maxRecDepth 100000
def ltS (s t : ByteArray) : Bool := Op.bytesLess s.toList t.toList
theorem ltS_eq (s t : ByteArray) : ltS s t = decide (s.toList < t.toList) := bytesLess_eq _ _
theorem toListB_inj {s t : ByteArray} (h : s.toList = t.toList) : s = t := by
  rw [toList_eq, toList_eq] at h
  cases s; cases t
  simp only at h
  congr 1
  exact Array.toList_inj.1 h
theorem ltS_irrefl (s : ByteArray) : ltS s s = false := by
  rw [ltS_eq]; exact decide_eq_false (List.lt_irrefl _)
theorem ltS_trans {s t u : ByteArray} (h1 : ltS s t = true) (h2 : ltS t u = true) : ltS s u = true := by
  rw [ltS_eq] at *
  exact decide_eq_true (List.lt_trans (of_decide_eq_true h1) (of_decide_eq_true h2))
theorem ltS_asymm {s t : ByteArray} (h1 : ltS s t = true) : ltS t s = false := by
  cases h : ltS t s with
  | false => rfl
  | true => have := ltS_trans h1 h; rw [ltS_irrefl] at this; cases this
theorem ltS_eq_of {s t : ByteArray} (h1 : ltS s t = false) (h2 : ltS t s = false) : s = t := by
  rw [ltS_eq] at *
  have a := of_decide_eq_false h1
  have b := of_decide_eq_false h2
  exact toListB_inj (List.le_antisymm (List.not_lt.1 b) (List.not_lt.1 a))
theorem ltS_le_trans {a b c : ByteArray} (h1 : ltS b a = false) (h2 : ltS c b = false) : ltS c a = false := by
  cases h : ltS c a with
  | false => rfl
  | true =>
    cases h3 : ltS a b with
    | true => have := ltS_trans h h3; rw [h2] at this; cases this
    | false =>
      have := ltS_eq_of h3 h1
      subst this
      rw [h] at h2; cases h2
section
variable {α : Type} (key : α → ByteArray)
def Srt (l : List α) : Prop := l.Pairwise (fun a b => ltS (key b) (key a) = false)
def Stb (l l' : List α) : Prop := ∀ k, l'.filter (fun a => decide (key a = k)) = l.filter (fun a => decide (key a = k))
variable {key}
theorem Stb.refl (l : List α) : Stb key l l := fun _ => rfl
theorem Stb.trans {a b c : List α} (h1 : Stb key a b) (h2 : Stb key b c) : Stb key a c := fun k => (h2 k).trans (h1 k)
theorem Stb.mem {a a' : List α} (h : Stb key a a') (x : α) : x ∈ a' ↔ x ∈ a := by
  have e := h (key x)
  have h1 : x ∈ a'.filter (fun a => decide (key a = key x)) ↔ x ∈ a' := by simp
  have h2 : x ∈ a.filter (fun b => decide (key b = key x)) ↔ x ∈ a := by simp
  rw [← h1, ← h2, e]
theorem len_parts (p : α → Bool) : ∀ l : List α, l.length = (l.filter p).length + (l.filter (fun a => !p a)).length
  | [] => rfl
  | x :: xs => by
    have := len_parts p xs
    cases h : p x <;> simp [h] <;> omega
theorem Stb.lenN : ∀ (n : Nat) (a a' : List α), a.length ≤ n → Stb key a a' → a'.length = a.length
  | n, [], a', _, h => by
    rcases a' with _ | ⟨x, xs⟩
    · rfl
    · have := (h.mem x).1 (by simp)
      cases this
  | 0, x :: xs, a', hn, h => by simp at hn
  | n + 1, x :: xs, a', hn, h => by
    have h2 : Stb key ((x :: xs).filter (fun a => !decide (key a = key x))) (a'.filter (fun a => !decide (key a = key x))) := fun k => by
      have := h k
      rw [List.filter_filter, List.filter_filter]
      have c : ∀ l : List α, l.filter (fun a => decide (key a = k) && !decide (key a = key x)) = (l.filter (fun a => decide (key a = k))).filter (fun a => !decide (key a = key x)) := fun l => by
        rw [List.filter_filter]; congr 1; funext a; rw [Bool.and_comm]
      rw [c, c, this]
    have h3 := Stb.lenN n _ _ (by
      have : ((x :: xs).filter (fun a => !decide (key a = key x))) = xs.filter (fun a => !decide (key a = key x)) := by simp
      rw [this]
      have := List.length_filter_le (fun a => !decide (key a = key x)) xs
      simp at hn; omega) h2
    rw [len_parts (fun a => decide (key a = key x)) a', len_parts (fun a => decide (key a = key x)) (x :: xs), h (key x), h3]
theorem Stb.len {a a' : List α} (h : Stb key a a') : a'.length = a.length := Stb.lenN _ a a' (Nat.le_refl _) h
theorem Srt.nil : Srt key ([] : List α) := List.Pairwise.nil
theorem Srt.one (x : α) : Srt key [x] := by unfold Srt; simp
theorem Srt.cons {x : α} {B : List α} : Srt key (x :: B) ↔ (∀ b ∈ B, ltS (key b) (key x) = false) ∧ Srt key B := by
  unfold Srt; rw [List.pairwise_cons]
end
/-- An entry as six cells, and the object that it reads as. -/
structure Rw where
  s : ByteArray
  x : Ob
  k : Int
  n : Int
  A2 : Option Addr
  m2 : Nat
  c2 : Nat
  A3 : Option Addr
  m3 : Nat
  c3 : Nat
  A4 : Option Addr
  m4 : Nat
  c4 : Nat
instance : Inhabited Rw := ⟨⟨⟨#[]⟩, .mk 0 0 [] .nil .nil, 0, 0, none, 0, 0, none, 0, 0, none, 0, 0⟩⟩
def encR (r : Rw) : List Value := [.string r.s, .int .i64 r.k, .int .i64 r.n, .slice r.A2 r.m2 r.c2, .slice r.A3 r.m3 r.c3, .slice r.A4 r.m4 r.c4]
theorem encR_len (r : Rw) : (encR r).length = 6 := rfl
theorem encR_one (r : Rw) : ∀ v ∈ encR r, v.oneCell' = true := by
  intro v hv
  unfold encR at hv
  simp only [List.mem_cons, List.not_mem_nil, or_false] at hv
  rcases hv with rfl | rfl | rfl | rfl | rfl | rfl <;> rfl
def cmpZ (s t : ByteArray) : Int := if ltS s t = true then -1 else if ltS t s = true then 1 else 0
def cfR (r q : Rw) : Int := cmpZ r.s q.s
theorem cmpZ_neg (s t : ByteArray) : decide (cmpZ s t < 0) = ltS s t := by
  unfold cmpZ
  cases h : ltS s t <;> simp
  split <;> omega
theorem run_gtS (s t : ByteArray) (W : World) : (binOp BinOp.gtr 9 (.string s) (.string t)).run Tryz.prog W = .ok (.bool (!(Op.bytesLess s.toList t.toList || s.toList == t.toList))) W := by kernel_rfl
/-- A world with draws and new blocks behind it. -/
def Grw (w w' : World) : Prop := ∃ q os, w' = grow (w.drewN q) os
theorem Grw.refl (w : World) : Grw w w := ⟨0, #[], by rw [grow_empty]; rfl⟩
theorem Grw.alloc {w w' : World} (h : Grw w w') (o : Obj) : Grw w (w'.alloc o) := by
  obtain ⟨q, os, rfl⟩ := h
  exact ⟨q, os ++ #[o], by rw [alloc_eq_grow, grow_grow]⟩
theorem Grw.drewN {w w' : World} (h : Grw w w') (n : Nat) : Grw w (w'.drewN n) := by
  obtain ⟨q, os, rfl⟩ := h
  exact ⟨q + n, os, by show grow ((w.drewN q).drewN n) os = _; rw [World.drewN_drewN]⟩
theorem Grw.trans {a b c : World} (h1 : Grw a b) (h2 : Grw b c) : Grw a c := by
  obtain ⟨q, os, rfl⟩ := h1
  obtain ⟨q2, os2, rfl⟩ := h2
  exact ⟨q + q2, os ++ os2, by show grow (grow ((a.drewN q).drewN q2) os) os2 = _; rw [grow_grow, World.drewN_drewN]⟩
theorem Grw.below {w w' : World} (h : Grw w w') : Below w.heap.size w w' := by
  obtain ⟨q, os, rfl⟩ := h
  exact ⟨rfl, rfl, rfl, by rw [size_grow]; exact Nat.le_add_right _ _, fun k hk => heap_grow_old _ os hk⟩
theorem isNaNC (s : ByteArray) (w : World) : Calls Tryz.prog 152 #[.string s] w fun e w' => e = .returned (.bool false) ∧ w = w' := by
  go_enter Tryz.func152, Tryz.ntmps152
  go_wp2
  go_ret
  exact ⟨by simp, rfl⟩
theorem compareC (s t : ByteArray) (w : World) : Calls Tryz.prog 138 #[.string s, .string t] w fun e w' => e = .returned (.int .i64 (cmpZ s t)) ∧ w = w' := by
  have hgt := run_gtS s t
  cases h : ltS s t with
  | true =>
    have e : cmpZ s t = -1 := by unfold cmpZ; rw [if_pos h]
    rw [e]
    unfold ltS at h
    clear e
    go_enter Tryz.func138, Tryz.ntmps138
    go_wp2_with (go_at_call 152; refine (isNaNC _ _).mono ?_; rintro e w' ⟨rfl, rfl⟩)
    go_ret
    exact ⟨rfl, rfl⟩
  | false =>
    cases h2 : ltS t s with
    | true =>
      have e : cmpZ s t = 1 := by unfold cmpZ; rw [if_neg (by rw [h]; simp), if_pos h2]
      have hne : (s.toList == t.toList) = false := str_ne (by rintro rfl; rw [ltS_irrefl] at h2; cases h2)
      rw [e]
      unfold ltS at h
      rw [h, hne] at hgt
      clear e h2
      go_enter Tryz.func138, Tryz.ntmps138
      go_wp2_with (go_at_call 152; refine (isNaNC _ _).mono ?_; rintro e w' ⟨rfl, rfl⟩)
      go_ret
      exact ⟨rfl, rfl⟩
    | false =>
      have e : cmpZ s t = 0 := by unfold cmpZ; rw [if_neg (by rw [h]; simp), if_neg (by rw [h2]; simp)]
      have heq := ltS_eq_of h h2
      rw [e]
      unfold ltS at h
      have hbe : (s.toList == t.toList) = true := by rw [heq]; simp
      rw [h, hbe] at hgt
      clear e h2 heq
      go_enter Tryz.func138, Tryz.ntmps138
      go_wp2_with (go_at_call 152; refine (isNaNC _ _).mono ?_; rintro e w' ⟨rfl, rfl⟩)
      go_ret
      exact ⟨rfl, rfl⟩
abbrev SW6 (w0 : World) (blk off : Nat) (dk : Array Rw) (W : World) : Prop := SWK encR 6 w0 blk off dk W
abbrev RW6 (w0 : World) (blk off : Nat) (d0 : Array Rw) : Prop := RowK encR 6 w0 blk off d0
theorem SW6.holds {w0 W : World} {blk off : Nat} {d0 dk : Array Rw} (h : SW6 w0 blk off dk W) (R : RW6 w0 blk off d0) (hs : dk.size = d0.size) : HoldsK encR 6 W blk off dk := SWK.holds h R.hblk R.hH hs
theorem SW6.cells {w0 W : World} {blk off : Nat} {d0 dk : Array Rw} (h : SW6 w0 blk off dk W) (R : RW6 w0 blk off d0) (hs : dk.size = d0.size) (i : Nat) (hi : i < dk.size) (x : Rw) (hx : dk[i]! = x) :
    (W.cell? ⟨blk, off + i * 6, none⟩ = some (.string x.s) ∧ W.cell? ⟨blk, off + i * 6 + 1, none⟩ = some (.int .i64 x.k) ∧ W.cell? ⟨blk, off + i * 6 + 2, none⟩ = some (.int .i64 x.n) ∧ W.cell? ⟨blk, off + i * 6 + 3, none⟩ = some (.slice x.A2 x.m2 x.c2) ∧ W.cell? ⟨blk, off + i * 6 + 4, none⟩ = some (.slice x.A3 x.m3 x.c3) ∧ W.cell? ⟨blk, off + i * 6 + 5, none⟩ = some (.slice x.A4 x.m4 x.c4)) := by
  have H := h.holds R hs
  subst hx
  have e := fun c hc => (H.cell hi (c := c) hc).1
  exact ⟨e 0 (by omega), e 1 (by omega), e 2 (by omega), e 3 (by omega), e 4 (by omega), e 5 (by omega)⟩
theorem SW6.free {w0 W : World} {blk off : Nat} {d0 dk : Array Rw} (h : SW6 w0 blk off dk W) (R : RW6 w0 blk off d0) (hs : dk.size = d0.size) (i : Nat) (hi : i < dk.size) :
    (W.frozen? ⟨blk, off + i * 6, none⟩ = false ∧ W.frozen? ⟨blk, off + i * 6 + 1, none⟩ = false ∧ W.frozen? ⟨blk, off + i * 6 + 2, none⟩ = false ∧ W.frozen? ⟨blk, off + i * 6 + 3, none⟩ = false ∧ W.frozen? ⟨blk, off + i * 6 + 4, none⟩ = false ∧ W.frozen? ⟨blk, off + i * 6 + 5, none⟩ = false) := by
  have H := h.holds R hs
  have e := fun c hc => (H.cell hi (c := c) hc).2
  exact ⟨e 0 (by omega), e 1 (by omega), e 2 (by omega), e 3 (by omega), e 4 (by omega), e 5 (by omega)⟩
abbrev keyR : Rw → ByteArray := fun r => r.s
theorem SW6.only {w0 W : World} {blk off : Nat} {dk : Array Rw} (h : SW6 w0 blk off dk W) : Only blk w0 W := by
  obtain ⟨n, os, rfl⟩ := h
  refine ⟨rfl, rfl, rfl, SWK.le ⟨n, os, rfl⟩, fun k hk hne => ?_⟩
  unfold sortWorldK
  rw [heap_grow_old _ _ (by rw [size_putRowK]; exact hk)]
  unfold putRowK putRow mapBlock
  simp only [Array.getElem?_modify]
  rw [if_neg (fun e => hne e.symm)]
  rfl
end

section
open Go.RowKit Go.Sort
set_option linter.unusedVariables false
set_option maxRecDepth 100000
/-- Blocks of a length, each rising; a shorter one behind them. -/
def Blk (bs : Nat) (L : List Rw) : Prop := ∃ (Xs : List (List Rw)) (Y : List Rw), L = Xs.flatten ++ Y ∧ (∀ X ∈ Xs, X.length = bs ∧ Srt keyR X) ∧ Y.length < bs ∧ Srt keyR Y
theorem flat_len {bs : Nat} : ∀ (Xs : List (List Rw)), (∀ X ∈ Xs, X.length = bs ∧ Srt keyR X) → Xs.flatten.length = Xs.length * bs
  | [], _ => by simp
  | X :: Xs, h => by
    have := flat_len Xs (fun Y hY => h Y (by simp [hY]))
    have h1 := (h X (by simp)).1
    rw [List.flatten_cons, List.length_append, this, h1, List.length_cons, Nat.add_mul]; omega
theorem Blk.two {bs : Nat} {L : List Rw} (h : Blk bs L) (hl : 2 * bs ≤ L.length) : ∃ X1 X2 T, L = X1 ++ (X2 ++ T) ∧ X1.length = bs ∧ X2.length = bs ∧ Srt keyR X1 ∧ Srt keyR X2 ∧ Blk bs T := by
  obtain ⟨Xs, Y, rfl, hX, hY, hS⟩ := h
  have hf := flat_len Xs hX
  match Xs, hX, hf, hl with
  | [], hX, hf, hl => simp at hl; omega
  | [X], hX, hf, hl => simp at hl hf; omega
  | X1 :: X2 :: T, hX, hf, hl =>
    exact ⟨X1, X2, T.flatten ++ Y, by simp [List.append_assoc], (hX X1 (by simp)).1, (hX X2 (by simp)).1, (hX X1 (by simp)).2, (hX X2 (by simp)).2, T, Y, rfl, fun X h => hX X (by simp [h]), hY, hS⟩
theorem Blk.one {bs : Nat} {L : List Rw} (h : Blk bs L) (hl : L.length ≤ bs) : Srt keyR L := by
  obtain ⟨Xs, Y, rfl, hX, hY, hS⟩ := h
  have hf := flat_len Xs hX
  match Xs, hX, hf, hl with
  | [], hX, hf, hl => simpa using hS
  | [X], hX, hf, hl =>
    simp at hl hf
    have : Y = [] := List.eq_nil_of_length_eq_zero (by omega)
    subst this
    simpa using (hX X (by simp)).2
  | X1 :: X2 :: T, hX, hf, hl => simp [Nat.add_mul] at hl hf; omega
/-- Blocks alone. -/
def Blks (bs : Nat) (L : List Rw) : Prop := ∃ Xs : List (List Rw), L = Xs.flatten ∧ ∀ X ∈ Xs, X.length = bs ∧ Srt keyR X
theorem Blks.nil (bs : Nat) : Blks bs [] := ⟨[], rfl, fun _ h => by cases h⟩
theorem Blks.snoc {bs : Nat} {L X : List Rw} (h : Blks bs L) (hX : X.length = bs) (hS : Srt keyR X) : Blks bs (L ++ X) := by
  obtain ⟨Xs, rfl, hXs⟩ := h
  exact ⟨Xs ++ [X], by simp, fun Z hZ => by
    rcases List.mem_append.1 hZ with hZ | hZ
    · exact hXs Z hZ
    · simp at hZ; subst hZ; exact ⟨hX, hS⟩⟩
theorem Blks.last {bs : Nat} {L Y : List Rw} (h : Blks bs L) (hY : Y.length < bs) (hS : Srt keyR Y) : Blk bs (L ++ Y) := by
  obtain ⟨Xs, rfl, hXs⟩ := h
  exact ⟨Xs, Y, rfl, hXs, hY, hS⟩
end
end Go.Proofs.YtpomkhcobpihmaaGreat
