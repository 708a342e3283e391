/- Contracts of functions that the law calls, and what they lean on (a part). -/
import Derived.Test.YtnlpdnimfaipmaaDe20
import Derived.Test.YtnlpdnimfaipmaaDe27
import Derived.Test.YtnlpdnimfaipmaaDe28
namespace Go.Proofs.Ytnlpdnimfaipmaa
section
open Go.RowKit
set_option linter.unusedVariables false
set_option maxRecDepth 100000
/-- What is wrong, the object, where one stands. -/
structure Rt where
  e : Int
  x : Ob
  q : Nat
def nulO : Ob := .mk 0 0 [] .nil .nil
def noR (e : Int) (q : Nat) : Rt := ⟨e, nulO, q⟩
def strR : ByteArray := ⟨#[82]⟩
/-- Behind a place stand a 0 and an R. -/
def refB (zs : List Int) (q : Nat) : Bool := decide ((tokT zs q).e = 0) && (decide ((tokT zs q).k = 1) && (decide ((tokT zs q).v = 0) && kwB zs (tokT zs q).q strR))
def wholeR (zs : List Int) (v : Int) (q : Nat) : Rt := if (1 ≤ v ∧ v ≤ 8388607) ∧ refB zs q = true then ⟨0, .mk 9 v [] .nil .nil, kwP zs (tokT zs q).q strR⟩ else ⟨0, .mk 2 v [] .nil .nil, q⟩
def hasK (s : ByteArray) : Ens → Bool
  | .nil => false
  | .cons t _ xs => decide (t = s) || hasK s xs
def wordR (b : List Int) (a q : Nat) : Rt :=
  if b = [116, 114, 117, 101] then ⟨0, .mk 1 1 [] .nil .nil, q⟩ else if b = [102, 97, 108, 115, 101] then ⟨0, .mk 1 0 [] .nil .nil, q⟩ else if b = [110, 117, 108, 108] then ⟨0, nulO, q⟩ else noR 4 a
/-- What a token begins. -/
def begR (zs : List Int) (its ens : Nat → Nat → Rt) (t : Tk) (a d : Nat) : Rt :=
  if t.k = 1 then wholeR zs t.v t.q
  else if t.k = 2 then ⟨0, .mk 3 t.v [] .nil .nil, t.q⟩
  else if t.k = 3 then ⟨0, .mk 4 0 t.b .nil .nil, t.q⟩
  else if t.k = 4 then ⟨0, .mk 5 0 t.b .nil .nil, t.q⟩
  else if t.k = 9 then wordR t.b a t.q
  else if t.k = 5 then (if d = 0 then noR 6 a else its (d - 1) t.q)
  else if t.k = 7 then (if d = 0 then noR 6 a else ens (d - 1) t.q)
  else if t.k = 0 then noR 2 a
  else noR 4 a
inductive Md where
  | val : Md
  | its (l : Obs) : Md
  | ens (l : Ens) : Md
def parF (zs : List Int) : Nat → Md → Nat → Nat → Rt
  | 0, _, _, p => noR 4 p
  | f + 1, .val, d, p =>
    if (tokT zs p).e ≠ 0 then noR (tokT zs p).e (tokT zs p).q
    else begR zs (fun d q => parF zs f (.its .nil) d q) (fun d q => parF zs f (.ens .nil) d q) (tokT zs p) (blkP zs p) d
  | f + 1, .its l, d, p =>
    if (tokT zs p).e ≠ 0 then noR (tokT zs p).e (tokT zs p).q
    else if (tokT zs p).k = 6 then ⟨0, .mk 6 0 [] l .nil, (tokT zs p).q⟩
    else if (begR zs (fun d q => parF zs f (.its .nil) d q) (fun d q => parF zs f (.ens .nil) d q) (tokT zs p) (blkP zs p) d).e ≠ 0 then noR (begR zs (fun d q => parF zs f (.its .nil) d q) (fun d q => parF zs f (.ens .nil) d q) (tokT zs p) (blkP zs p) d).e (begR zs (fun d q => parF zs f (.its .nil) d q) (fun d q => parF zs f (.ens .nil) d q) (tokT zs p) (blkP zs p) d).q
    else parF zs f (.its (l.snoc (begR zs (fun d q => parF zs f (.its .nil) d q) (fun d q => parF zs f (.ens .nil) d q) (tokT zs p) (blkP zs p) d).x)) d (begR zs (fun d q => parF zs f (.its .nil) d q) (fun d q => parF zs f (.ens .nil) d q) (tokT zs p) (blkP zs p) d).q
  | f + 1, .ens l, d, p =>
    if (tokT zs p).e ≠ 0 then noR (tokT zs p).e (tokT zs p).q
    else if (tokT zs p).k = 8 then ⟨0, .mk 7 0 [] .nil (dictF l .nil), (tokT zs p).q⟩
    else if (tokT zs p).k = 0 then noR 2 (blkP zs p)
    else if (tokT zs p).k ≠ 4 ∨ hasK (strOfNums (tokT zs p).b) l = true then noR 4 (blkP zs p)
    else if (parF zs f .val d (tokT zs p).q).e ≠ 0 then noR (parF zs f .val d (tokT zs p).q).e (parF zs f .val d (tokT zs p).q).q
    else parF zs f (.ens (l.snoc (strOfNums (tokT zs p).b) (parF zs f .val d (tokT zs p).q).x)) d (parF zs f .val d (tokT zs p).q).q
theorem kwP_ge (zs : List Int) (p : Nat) (s : ByteArray) : p ≤ kwP zs p s := by
  unfold kwP
  split
  · have := blkP_ge zs p; omega
  · exact Nat.le_refl _
theorem wholeR_e (zs : List Int) (v : Int) (q : Nat) : (wholeR zs v q).e = 0 := by unfold wholeR; split <;> rfl
theorem wholeR_q (zs : List Int) (v : Int) (q : Nat) : q ≤ (wholeR zs v q).q := by
  unfold wholeR
  split
  · rename_i h
    have h2 := h.2
    unfold refB at h2
    simp only [Bool.and_eq_true, decide_eq_true_eq] at h2
    have h3 := tokT_gt zs q h2.1 (by rw [h2.2.1]; decide)
    have h5 := kwP_ge zs (tokT zs q).q strR
    show q ≤ kwP zs (tokT zs q).q strR
    omega
  · exact Nat.le_refl _
theorem begR_q (zs : List Int) (its ens : Nat → Nat → Rt) (t : Tk) (a d : Nat) (h1 : ∀ d q, (its d q).e = 0 → q < (its d q).q) (h2 : ∀ d q, (ens d q).e = 0 → q < (ens d q).q) :
    (begR zs its ens t a d).e = 0 → t.q ≤ (begR zs its ens t a d).q := by
  have hw := wholeR_q zs t.v t.q
  unfold begR
  split
  · exact fun _ => hw
  split
  · exact fun _ => Nat.le_refl _
  split
  · exact fun _ => Nat.le_refl _
  split
  · exact fun _ => Nat.le_refl _
  split
  · unfold wordR
    split
    · exact fun _ => Nat.le_refl _
    split
    · exact fun _ => Nat.le_refl _
    split
    · exact fun _ => Nat.le_refl _
    · exact fun h => absurd h (by simp [noR])
  split
  · split
    · exact fun h => absurd h (by simp [noR])
    · exact fun h => Nat.le_of_lt (h1 _ _ h)
  split
  · split
    · exact fun h => absurd h (by simp [noR])
    · exact fun h => Nat.le_of_lt (h2 _ _ h)
  split
  · exact fun h => absurd h (by simp [noR])
  · exact fun h => absurd h (by simp [noR])
theorem begR_k0 (zs : List Int) (its ens : Nat → Nat → Rt) (t : Tk) (a d : Nat) (h : (begR zs its ens t a d).e = 0) : t.k ≠ 0 := by
  intro hk
  unfold begR at h
  rw [hk] at h
  simp [noR] at h
/-- Behind an object one has moved on. -/
theorem parF_q (zs : List Int) : ∀ (f : Nat) (m : Md) (d p : Nat), (parF zs f m d p).e = 0 → p < (parF zs f m d p).q
  | 0, m, d, p => by rw [parF]; exact fun h => absurd h (by simp [noR])
  | f + 1, .val, d, p => by
    have hB := begR_q zs (fun d q => parF zs f (.its .nil) d q) (fun d q => parF zs f (.ens .nil) d q) (tokT zs p) (blkP zs p) d (fun d q => parF_q zs f (.its .nil) d q) (fun d q => parF_q zs f (.ens .nil) d q)
    rw [parF]
    split
    · rename_i h0; exact fun h => absurd h h0
    · rename_i h0
      intro h
      have := tokT_gt zs p (by simpa using h0) (begR_k0 _ _ _ _ _ _ h)
      have := hB h
      omega
  | f + 1, .its l, d, p => by
    have hB := begR_q zs (fun d q => parF zs f (.its .nil) d q) (fun d q => parF zs f (.ens .nil) d q) (tokT zs p) (blkP zs p) d (fun d q => parF_q zs f (.its .nil) d q) (fun d q => parF_q zs f (.ens .nil) d q)
    rw [parF]
    split
    · rename_i h0; exact fun h => absurd h h0
    rename_i h0
    split
    · rename_i h6
      exact fun _ => tokT_gt zs p (by simpa using h0) (by rw [h6]; decide)
    have hk := begR_k0 zs (fun d q => parF zs f (.its .nil) d q) (fun d q => parF zs f (.ens .nil) d q) (tokT zs p) (blkP zs p) d
    obtain ⟨R, hR⟩ : ∃ R, begR zs (fun d q => parF zs f (.its .nil) d q) (fun d q => parF zs f (.ens .nil) d q) (tokT zs p) (blkP zs p) d = R := ⟨_, rfl⟩
    rw [hR] at hB hk ⊢
    split
    · rename_i h1; exact fun h => absurd h h1
    · rename_i h1
      have hI := parF_q zs f (.its (l.snoc R.x)) d R.q
      intro h
      have h2 := hI h
      have h3 := hB (by simpa using h1)
      have h4 := tokT_gt zs p (by simpa using h0) (hk (by simpa using h1))
      omega
  | f + 1, .ens l, d, p => by
    have hV := parF_q zs f .val d (tokT zs p).q
    rw [parF]
    split
    · rename_i h0; exact fun h => absurd h h0
    rename_i h0
    split
    · rename_i h6
      exact fun _ => tokT_gt zs p (by simpa using h0) (by rw [h6]; decide)
    split
    · exact fun h => absurd h (by simp [noR])
    rename_i hk
    split
    · exact fun h => absurd h (by simp [noR])
    obtain ⟨R, hR⟩ : ∃ R, parF zs f .val d (tokT zs p).q = R := ⟨_, rfl⟩
    rw [hR] at hV ⊢
    split
    · rename_i h1; exact fun h => absurd h h1
    · rename_i h1
      have hI := parF_q zs f (.ens (l.snoc (strOfNums (tokT zs p).b) R.x)) d R.q
      intro h
      have h2 := hI h
      have h3 := hV (by simpa using h1)
      have h4 := tokT_gt zs p (by simpa using h0) hk
      omega
end

section
open Go.RowKit
set_option linter.unusedVariables false
set_option maxRecDepth 100000
/-- The parser in block m, its lexer in h, its cursor in g, over the bytes zs, at the place p; d: how deep it may go. -/
structure PX (w : World) (m h g : Nat) (A : Option Addr) (n c d : Nat) (zs : List Int) (p : Nat) : Prop where
  ps : w.heap[m]? = some (.cells #[.pointer (some ⟨h, 0, none⟩), .int .i64 d] 94 (0, 0))
  lx : LX w h g A n c p
  bt : Byt w g A n c zs
  ne : m ≠ g
  sm : n ≤ 900000
section
variable {w w' : World} {m h g n c d p q b : Nat} {A : Option Addr} {zs : List Int}
theorem PX.lt (x : PX w m h g A n c d zs p) : m < w.heap.size := row_lt w m _ x.ps
theorem PX.k0 (x : PX w m h g A n c d zs p) : w.cell? ⟨m, 0, none⟩ = some (.pointer (some ⟨h, 0, none⟩)) := by rw [cell_of_row w m 0 _ _ (0, 0) x.ps]; rfl
theorem PX.k1 (x : PX w m h g A n c d zs p) : w.cell? ⟨m, 1, none⟩ = some (.int .i64 d) := by rw [cell_of_row w m 1 _ _ (0, 0) x.ps]; rfl
theorem PX.drewN (x : PX w m h g A n c d zs p) (k : Nat) : PX (w.drewN k) m h g A n c d zs p := ⟨x.ps, x.lx.drewN k, x.bt.drewN k, x.ne, x.sm⟩
theorem PX.moved (x : PX w m h g A n c d zs p) (hl : LX w' h g A n c q) (ho : Only g w w') : PX w' m h g A n c d zs q :=
  ⟨(ho.block m x.lt x.ne).trans x.ps, hl, x.bt.only ho (Nat.le_refl _) (Nat.le_of_lt x.lx.cu.lt), x.ne, x.sm⟩
theorem PX.low (x : PX w m h g A n c d zs p) (hb : Below w.heap.size w w') : PX w' m h g A n c d zs p :=
  ⟨(hb.block m x.lt).trans x.ps, x.lx.below hb x.lx.lt x.lx.cu.lt, x.bt.below hb (Nat.le_of_lt x.lx.cu.lt), x.ne, x.sm⟩
theorem PX.alloc (x : PX w m h g A n c d zs p) (o : Obj) : PX (w.alloc o) m h g A n c d zs p := x.low ((Below.refl _ _).alloc (Nat.le_refl _) o)
theorem PX.len (x : PX w m h g A n c d zs p) : zs.length = n := x.bt.len
theorem PX.pz (x : PX w m h g A n c d zs p) : p ≤ zs.length := by rw [x.bt.len]; exact x.lx.pl
/-- What is written into a block behind all these changes nothing. -/
theorem PX.set5 (x : PX w m h g A n c d zs p) (hm : m < b) (hh : h < b) (hg : g < b) {x0 x1 x2 x3 x4 : Value} : PX (((((w.setCell ⟨b, 0, none⟩ x0).setCell ⟨b, 1, none⟩ x1).setCell ⟨b, 2, none⟩ x2).setCell ⟨b, 3, none⟩ x3).setCell ⟨b, 4, none⟩ x4) m h g A n c d zs p :=
  ⟨(heap_set5 (Nat.ne_of_lt hm)).trans x.ps, x.lx.keep2 (heap_set5 (Nat.ne_of_lt hh)) (heap_set5 (Nat.ne_of_lt hg)),
   ⟨x.bt.len, x.bt.cap, x.bt.rng, fun hn => by
    obtain ⟨b', o, e, hlt, hc⟩ := x.bt.cell hn
    exact ⟨b', o, e, hlt, fun i hi => (World.cell?_of_block (a := ⟨b', o + i, none⟩) (heap_set5 (show b' ≠ b by omega))).trans (hc i hi)⟩⟩, x.ne, x.sm⟩
theorem Only.set5 {g b : Nat} {w w' : World} (ho : Only g w w') (hb : w.heap.size ≤ b) {x0 x1 x2 x3 x4 : Value} : Only g w (((((w'.setCell ⟨b, 0, none⟩ x0).setCell ⟨b, 1, none⟩ x1).setCell ⟨b, 2, none⟩ x2).setCell ⟨b, 3, none⟩ x3).setCell ⟨b, 4, none⟩ x4) :=
  ((((ho.setN hb 0 x0).setN hb 1 x1).setN hb 2 x2).setN hb 3 x3).setN hb 4 x4
end
/-- Token, of the lexer within. -/
theorem ptkC {w : World} {m h g n c d p : Nat} {A : Option Addr} {zs : List Int} (x : PX w m h g A n c d zs p) :
    Calls Try.prog 38 #[.pointer (some ⟨h, 0, none⟩)] w fun r w' => ∃ (A' : Option Addr) (l c' : Nat), r = .returned (.tuple #[tkA (tokT zs p).k (blkP zs p) (tokT zs p).v A' l c', .int .i64 (tokT zs p).e]) ∧ PX w' m h g A n c d zs (tokT zs p).q ∧ Only g w w' ∧ Byt w' w'.heap.size A' l c' (tokT zs p).b ∧ From w.heap.size A' l :=
  (ptokC h g n c p g A zs w x.lx x.bt (Nat.le_refl _) x.sm).mono fun _ _ ⟨A', l, c', he, hl, ho, hy, hf⟩ => ⟨A', l, c', he, x.moved hl ho, ho, hy, hf⟩
theorem pkwC {w : World} {m h g n c d p : Nat} {A : Option Addr} {zs : List Int} (x : PX w m h g A n c d zs p) (s : ByteArray) (hs : s.size ≤ 900000) :
    Calls Try.prog 156 #[.pointer (some ⟨h, 0, none⟩), .string s] w fun r w' => r = .returned (.bool (kwB zs p s)) ∧ PX w' m h g A n c d zs (kwP zs p s) ∧ Only g w w' :=
  (pkeywordC h g n c p g A zs s w x.lx x.bt (Nat.le_refl _) x.sm hs).mono fun _ _ ⟨he, hl, ho⟩ => ⟨he, x.moved hl ho, ho⟩
theorem pskC {w : World} {m h g n c d p : Nat} {A : Option Addr} {zs : List Int} (x : PX w m h g A n c d zs p) (q : Nat) (hq : q ≤ n) :
    Calls Try.prog 69 #[.pointer (some ⟨g, 0, none⟩), .int .i64 q] w fun r w' => r = .returned (.bool true) ∧ PX w' m h g A n c d zs q ∧ Only g w w' :=
  (seek_in g n c p q A w x.lx.cu hq (by have := x.sm; omega)).mono fun _ _ ⟨he, hc, ho⟩ => ⟨he, x.moved (x.lx.moved hc ho hq) ho, ho⟩
theorem ppsC {w : World} {m h g n c d p : Nat} {A : Option Addr} {zs : List Int} (x : PX w m h g A n c d zs p) :
    Calls Try.prog 67 #[.pointer (some ⟨g, 0, none⟩)] w fun r w' => r = .returned (.int .i64 p) ∧ w = w' := pos_any g n c p A w x.lx.cu
theorem backC {w : World} {m h g n c d p : Nat} {A : Option Addr} {zs : List Int} (x : PX w m h g A n c d zs p) (k v e : Int) (a : Nat) (A' : Option Addr) (l c' : Nat) (ha : a ≤ n) :
    Calls Try.prog 130 #[.pointer (some ⟨m, 0, none⟩), tkA k a v A' l c', .int .i64 e] w fun r w' => r = .returned (.int .i64 e) ∧ PX w' m h g A n c d zs a ∧ Only g w w' := by
  have hx1 := x.alloc (.cells #[.int .i64 k, .int .i64 a, .int .i64 v, .slice A' l c'] 57)
  have hn1 := Bx.new w 57 (.int .i64 k) (.int .i64 a) (.int .i64 v) (.slice A' l c')
  have ho1 := (Only.refl g w).alloc (.cells #[.int .i64 k, .int .i64 a, .int .i64 v, .slice A' l c'] 57)
  obtain ⟨W1, hW1⟩ : ∃ W1, w.alloc (.cells #[.int .i64 k, .int .i64 a, .int .i64 v, .slice A' l c'] 57) = W1 := ⟨_, rfl⟩
  rw [hW1] at hx1 hn1 ho1
  have t1 := hn1.c1
  have k0 := hx1.k0
  have j0 := hx1.lx.k0
  have HX1 := Lib.hid hx1
  have HO1 := Lib.hid ho1
  have HW1 := Lib.hid hW1
  have HA := Lib.hid ha
  have HN1 := Lib.hid hn1
  have HG := Lib.hid x.lx.cu.lt
  clear hx1 hn1 ho1 hW1 ha x
  go_enter Try.func130, Try.ntmps130
  go_upto_region 1 with fail
  rw [HW1.out]
  refine wp_region_heldR (fun W => W.cell? ⟨m, 0, none⟩ = some (.pointer (some ⟨h, 0, none⟩)) ∧ W.cell? ⟨h, 0, none⟩ = some (.pointer (some ⟨g, 0, none⟩)) ∧ W.cell? ⟨w.heap.size, 1, none⟩ = some (.int .i64 a)) 1000 (by kernel_rfl) ⟨k0, j0, t1⟩ (fun hHeld => ?_)
  refine wpAnyR_take 0 rfl (by kernel_rfl) (by kernel_rfl) (by kernel_rfl) (by kernel_rfl) (fun _ _ _ h => h) (by rfl) (v := ?_) ?_ (by assumption) ?_
  rotate_left
  focus
    intro wS hSw
    (try dsimp only at hSw)
    go_simp
    (try simp only [hSw])
    try with_reducible rfl
  intro hHeld
  try simp only [Act.put, List.setIfInBounds_toArray, List.set_cons_zero, List.set_cons_succ]
  refine wpAnyR_take 1 rfl (by kernel_rfl) (by kernel_rfl) (by kernel_rfl) (by kernel_rfl) (fun _ _ _ h => h) (by rfl) (v := ?_) ?_ (by assumption) ?_
  rotate_left
  focus
    intro wS hSw
    (try dsimp only at hSw)
    go_simp
    (try simp only [hSw])
    try with_reducible rfl
  intro hHeld
  try simp only [Act.put, List.setIfInBounds_toArray, List.set_cons_zero, List.set_cons_succ]
  refine wpAnyR_take 2 rfl (by kernel_rfl) (by kernel_rfl) (by kernel_rfl) (by kernel_rfl) (fun _ _ _ h => h) (by rfl) (v := ?_) ?_ (by assumption) ?_
  rotate_left
  focus
    intro wS hSw
    (try dsimp only at hSw)
    go_simp
    (try simp only [hSw])
    try with_reducible rfl
  intro hHeld
  try simp only [Act.put, List.setIfInBounds_toArray, List.set_cons_zero, List.set_cons_succ]
  refine wpAnyR_take 3 rfl (by kernel_rfl) (by kernel_rfl) (by kernel_rfl) (by kernel_rfl) (fun _ _ _ h => h) (by rfl) (v := ?_) ?_ (by assumption) ?_
  rotate_left
  focus
    intro wS hSw
    (try dsimp only at hSw)
    go_simp
    (try simp only [hSw])
    try with_reducible rfl
  intro hHeld
  try simp only [Act.put, List.setIfInBounds_toArray, List.set_cons_zero, List.set_cons_succ]
  refine wpAnyR_take 4 rfl (by kernel_rfl) (by kernel_rfl) (by kernel_rfl) (by kernel_rfl) (fun _ _ _ h => h) (by rfl) (v := ?_) ?_ (by assumption) ?_
  rotate_left
  focus
    intro wS hSw
    (try dsimp only at hSw)
    go_simp
    (try simp only [hSw])
    try with_reducible rfl
  intro hHeld
  try simp only [Act.put, List.setIfInBounds_toArray, List.set_cons_zero, List.set_cons_succ]
  refine wpAnyR_take 5 rfl (by kernel_rfl) (by kernel_rfl) (by kernel_rfl) (by kernel_rfl) (fun _ _ _ h => h) (by rfl) (v := ?_) ?_ (by assumption) ?_
  rotate_left
  focus
    intro wS hSw
    (try dsimp only at hSw)
    go_simp
    (try simp only [hSw])
    try with_reducible rfl
  intro hHeld
  try simp only [Act.put, List.setIfInBounds_toArray, List.set_cons_zero, List.set_cons_succ]
  refine wpAnyR_take 6 rfl (by kernel_rfl) (by kernel_rfl) (by kernel_rfl) (by kernel_rfl) (fun _ _ _ h => h) (by rfl) (v := ?_) ?_ (by assumption) ?_
  rotate_left
  focus
    intro wS hSw
    (try dsimp only at hSw)
    go_simp
    (try simp only [hSw])
    try with_reducible rfl
  intro hHeld
  try simp only [Act.put, List.setIfInBounds_toArray, List.set_cons_zero, List.set_cons_succ]
  refine wpAnyR_take 7 rfl (by kernel_rfl) (by kernel_rfl) (by kernel_rfl) (by kernel_rfl) (fun _ _ _ h => h) (by rfl) (v := ?_) ?_ (by assumption) ?_
  rotate_left
  focus
    intro wS hSw
    (try dsimp only at hSw)
    go_simp
    (try simp only [hSw])
    try with_reducible rfl
  intro hHeld
  try simp only [Act.put, List.setIfInBounds_toArray, List.set_cons_zero, List.set_cons_succ]
  refine wpAnyR_take 8 rfl (by kernel_rfl) (by kernel_rfl) (by kernel_rfl) (by kernel_rfl) (fun _ _ _ h => h) (by rfl) (v := ?_) ?_ (by assumption) ?_
  rotate_left
  focus
    intro wS hSw
    (try dsimp only at hSw)
    go_simp
    (try simp only [hSw])
    try with_reducible rfl
  intro hHeld
  try simp only [Act.put, List.setIfInBounds_toArray, List.set_cons_zero, List.set_cons_succ]
  refine wpAnyR_step 9 rfl (by kernel_rfl) (fun K hK => ?_)
  go_simp
  go_at_call 69
  refine (pskC (HX1.out.drewN 1) a HA.out).mono ?_
  rintro r w2 ⟨rfl, hx2, ho2⟩
  have HX2 := Lib.hid hx2
  have HO2 := Lib.hid ((HO1.out.drewN 1).trans ho2)
  have hb2 := (HN1.out.drewN 1).only ho2 (Nat.ne_of_gt HG.out)
  have t2 := hb2.c1
  clear hx2 ho2 hb2
  refine hK.out _ _ (⟨HX2.out.k0, HX2.out.lx.k0, t2⟩) (fun hHeld => ?_)
  clear hK K
  try simp only [Act.put, List.setIfInBounds_toArray, List.set_cons_zero, List.set_cons_succ]
  refine wpAnyR_done (by kernel_rfl) ?_
  refine NoPanic.normal ?_
  go_wp2_with fail
  go_ret
  exact ⟨rfl, HX2.out, HO2.out⟩
/-- What is wrong with a token that may not stand here. -/
def wrgZ (k : Int) : Int := if k = 0 then 2 else 4
theorem wrongC {w : World} {m h g n c d p : Nat} {A : Option Addr} {zs : List Int} (x : PX w m h g A n c d zs p) (k v : Int) (a : Nat) (A' : Option Addr) (l c' : Nat) (ha : a ≤ n) :
    Calls Try.prog 132 #[.pointer (some ⟨m, 0, none⟩), tkA k a v A' l c'] w fun r w' => r = .returned (.int .i64 (wrgZ k)) ∧ PX w' m h g A n c d zs a ∧ Only g w w' := by
  have hx1 := x.alloc (.cells #[.int .i64 k, .int .i64 a, .int .i64 v, .slice A' l c'] 57)
  have hn1 := Bx.new w 57 (.int .i64 k) (.int .i64 a) (.int .i64 v) (.slice A' l c')
  have ho1 := (Only.refl g w).alloc (.cells #[.int .i64 k, .int .i64 a, .int .i64 v, .slice A' l c'] 57)
  obtain ⟨W1, hW1⟩ : ∃ W1, w.alloc (.cells #[.int .i64 k, .int .i64 a, .int .i64 v, .slice A' l c'] 57) = W1 := ⟨_, rfl⟩
  rw [hW1] at hx1 hn1 ho1
  have t0 := hn1.c0
  have t1 := hn1.c1
  have t2 := hn1.c2
  have t3 := hn1.c3
  have HX1 := Lib.hid hx1
  have HO1 := Lib.hid ho1
  have HW1 := Lib.hid hW1
  have HA := Lib.hid ha
  have HBK := Lib.hid (fun e => backC HX1.out k v e a A' l c' HA.out)
  clear hx1 hn1 ho1 hW1 ha x
  unfold wrgZ
  by_cases hk : k = 0
  · subst hk
    rw [if_pos rfl]
    go_enter Try.func132, Try.ntmps132
    go_upto_region 1 with fail
    rw [HW1.out]
    go_wp2_with (go_at_call 130; refine (HBK.out _).mono ?_; (rintro r w2 ⟨rfl, hx2, ho2⟩))
    go_ret
    exact ⟨rfl, hx2, HO1.out.trans ho2⟩
  · rw [if_neg hk]
    have hkb : (k == 0) = false := beq_eq_false_iff_ne.2 hk
    clear hk
    go_enter Try.func132, Try.ntmps132
    go_upto_region 1 with fail
    rw [HW1.out]
    go_wp2_with (go_at_call 130; refine (HBK.out _).mono ?_; (rintro r w2 ⟨rfl, hx2, ho2⟩))
    go_ret
    exact ⟨rfl, hx2, HO1.out.trans ho2⟩
theorem numbersC (k : Int) (w : World) : Calls Try.prog 147 #[.int .i64 k] w fun e w' => e = .returned (.bool (decide (1 ≤ k ∧ k ≤ 8388607))) ∧ w = w' := by
  by_cases h1 : 1 ≤ k
  · by_cases h2 : k ≤ 8388607
    · have e : decide (1 ≤ k ∧ k ≤ 8388607) = true := decide_eq_true ⟨h1, h2⟩
      rw [e]
      go_enter Try.func147, Try.ntmps147
      go_wp2_with fail
      go_ret
      exact ⟨rfl, rfl⟩
    · have e : decide (1 ≤ k ∧ k ≤ 8388607) = false := decide_eq_false (fun h => h2 h.2)
      have e2 : decide (k ≤ 8388607) = false := decide_eq_false h2
      rw [e]
      clear e
      go_enter Try.func147, Try.ntmps147
      go_wp2_with fail
      go_ret
      exact ⟨rfl, rfl⟩
  · have e : decide (1 ≤ k ∧ k ≤ 8388607) = false := decide_eq_false (fun h => h1 h.1)
    have e2 : decide (1 ≤ k) = false := decide_eq_false h1
    rw [e]
    clear e
    go_enter Try.func147, Try.ntmps147
    go_wp2_with fail
    go_ret
    exact ⟨rfl, rfl⟩
end

section
open Go.RowKit
set_option linter.unusedVariables false
set_option maxRecDepth 100000
/-- A byte that a name holds as it is. -/
def plB (c : Int) : Bool := decide (33 ≤ c) && decide (c ≤ 126) && regB c && !(c == 35)
/-- The bytes of a name, written. -/
def nmS : List Int → List Int
  | [] => []
  | c :: cs => (if plB c = true then [c] else [35, hxD (c / 16), hxD (c % 16)]) ++ nmS cs
theorem peek_on {zs l : List Int} {q : Nat} {c : Int} (h : zs.drop q = c :: l) : peekZ zs (q : Int) = c := by
  have := peek_shift zs q 0
  rw [Nat.add_zero, h, peek_0] at this
  exact this
theorem drop_one {zs l : List Int} {q : Nat} {c : Int} (h : zs.drop q = c :: l) : zs.drop (q + 1) = l := drop_on (l := [c]) h
theorem peek_off {zs : List Int} {q : Nat} (h : zs.drop q = []) : peekZ zs (q : Int) = -1 := peekZ_nat zs q (List.drop_eq_nil_iff.1 h)
theorem name_back (zs rest : List Int) (hr : rest = [] ∨ ∃ r rs, rest = r :: rs ∧ regB r = false) : ∀ (bs : List Int) (f p : Nat) (o : List Int), zs.drop p = nmS bs ++ rest → (∀ z ∈ bs, 0 < z ∧ z < 256) → o.length + bs.length ≤ 127 → bs.length < f →
    nameF zs f p o = (0, o ++ bs, p + (nmS bs).length)
  | [], 0, p, o, h, _, _, hf => absurd hf (Nat.lt_irrefl _)
  | [], f + 1, p, o, h, _, _, _ => by
    have e : regB (peekZ zs (p : Int)) = false := by
      rcases hr with rfl | ⟨r, rs, rfl, hb⟩
      · rw [peek_off h]; decide
      · rw [peek_on h]; exact hb
    rw [nameF, if_pos e, List.append_nil]
    rfl
  | c :: cs, 0, p, o, h, _, _, hf => absurd hf (Nat.not_lt_zero _)
  | c :: cs, f + 1, p, o, h, hz, ho, hf => by
    have hc := hz c (List.mem_cons_self ..)
    have hcs : ∀ z ∈ cs, 0 < z ∧ z < 256 := fun z hm => hz z (List.mem_cons_of_mem _ hm)
    rw [List.length_cons] at ho hf
    by_cases hp : plB c = true
    · have h1 : zs.drop p = c :: (nmS cs ++ rest) := by rw [h, nmS, if_pos hp]; rfl
      have hpk := peek_on h1
      have hreg : regB c = true := by
        have := hp
        unfold plB at this
        simp at this
        exact this.1.2
      have h35 : ¬ c = 35 := by
        have := hp
        unfold plB at this
        simp at this
        exact this.2
      rw [nameF, hpk, if_neg (by rw [hreg]; decide), if_neg h35, if_neg (by omega), name_back zs rest hr cs f (p + 1) (o ++ [c]) (drop_one h1) hcs (by rw [List.length_append, List.length_singleton]; omega) (by omega)]
      rw [nmS, if_pos hp, List.append_assoc, List.length_append]
      show (0, o ++ ([c] ++ cs), p + 1 + (nmS cs).length) = (0, o ++ c :: cs, p + ([c].length + (nmS cs).length))
      rw [List.length_singleton, Nat.add_assoc]
      rfl
    · have h1 : zs.drop p = 35 :: hxD (c / 16) :: hxD (c % 16) :: (nmS cs ++ rest) := by rw [h, nmS, if_neg hp]; rfl
      have h2 := drop_one h1
      have h3 := drop_one h2
      have h4 := drop_one h3
      have d1 := hxD_ok (c / 16) (by omega) (by omega)
      have d2 := hxD_ok (c % 16) (by omega) (by omega)
      rw [nameF, peek_on h1, peek_on h2, show peekZ zs ((p + 2 : Nat) : Int) = hxD (c % 16) from peek_on h3, d1.1, d2.1, if_neg (by decide), if_pos rfl, if_neg (by omega), if_neg (by omega), show c / 16 * 16 + c % 16 = c by omega,
        name_back zs rest hr cs f (p + 3) (o ++ [c]) h4 hcs (by rw [List.length_append, List.length_singleton]; omega) (by omega)]
      rw [nmS, if_neg hp, List.append_assoc, List.length_append]
      show (0, o ++ ([c] ++ cs), p + 3 + (nmS cs).length) = (0, o ++ c :: cs, p + (3 + (nmS cs).length))
      rw [Nat.add_assoc]
      rfl
theorem tok_no {zs : List Int} {p : Nat} {c : Int} (h : peekZ zs (p : Int) = c) (hw : whB c = false) (h37 : c ≠ 37) : blkP zs p = p := blkP_no zs p (by rw [h]; exact hw) (by rw [h]; exact h37)
theorem tokT_of {zs : List Int} {p : Nat} (hb : blkP zs p = p) {t : Tk} (ht : tokZ zs p = t) (h0 : t.e = 0) : tokT zs p = t := by
  unfold tokT
  rw [hb, ht, if_pos h0]
theorem name_tok (zs rest bs : List Int) (p : Nat) (hr : rest = [] ∨ ∃ r rs, rest = r :: rs ∧ regB r = false) (h : zs.drop p = 47 :: (nmS bs ++ rest)) (hz : ∀ z ∈ bs, 0 < z ∧ z < 256) (hl : bs.length ≤ 127) (hf : bs.length ≤ zs.length) :
    blkP zs p = p ∧ tokT zs p = ⟨0, 4, 0, bs, p + 1 + (nmS bs).length⟩ := by
  have hpk := peek_on h
  have hb := tok_no hpk (by decide) (by decide)
  have hn := name_back zs rest hr bs (zs.length + 1) (p + 1) [] (drop_one h) hz (by simpa using hl) (by omega)
  refine ⟨hb, tokT_of hb ?_ rfl⟩
  rw [tokZ, hpk, if_neg (by decide), if_neg (by decide), if_neg (by decide), if_neg (by decide), if_neg (by decide), if_neg (fun hh => absurd hh.1 (by decide)), if_neg (fun hh => absurd hh.1 (by decide)), if_pos rfl, hn]
  rfl
end

section
open Go.RowKit
set_option linter.unusedVariables false
set_option maxRecDepth 100000
def opB : Bool → List Int
  | true => [91]
  | false => [60, 60, 47, 75, 32]
def clB : Bool → List Int
  | true => [93]
  | false => [62, 62]
def opL : List Bool → List Int
  | [] => []
  | k :: ks => opB k ++ opL ks
def clL : List Bool → List Int
  | [] => []
  | k :: ks => clL ks ++ clB k
theorem opL_snoc : ∀ (ks : List Bool) (k : Bool), opL (ks ++ [k]) = opL ks ++ opB k
  | [], k => by simp [opL]
  | x :: ks, k => by rw [List.cons_append, opL, opL, opL_snoc ks k, List.append_assoc]
theorem clL_snoc : ∀ (ks : List Bool) (k : Bool), clL (ks ++ [k]) = clB k ++ clL ks
  | [], k => by simp [clL]
  | x :: ks, k => by rw [List.cons_append, clL, clL, clL_snoc ks k, List.append_assoc]
def strK : ByteArray := ⟨#[75]⟩
def nestO : List Bool → Ob
  | [] => .mk 2 7 [] .nil .nil
  | true :: ks => .mk 6 0 [] (.cons (nestO ks) .nil) .nil
  | false :: ks => .mk 7 0 [] .nil (.cons strK (nestO ks) .nil)
theorem nest_kind : ∀ ks, (nestO ks).kind ≠ 0
  | [] => by simp [nestO, Ob.kind]
  | true :: ks => by simp [nestO, Ob.kind]
  | false :: ks => by simp [nestO, Ob.kind]
theorem nest_depth : ∀ ks, depthO (nestO ks) = ks.length
  | [] => by simp [nestO, depthO]
  | true :: ks => by
    rw [nestO, depthO, if_pos rfl, depthL, depthL, nest_depth ks, List.length_cons, Nat.max_zero]
  | false :: ks => by
    rw [nestO, depthO, if_neg (by decide), if_pos (.inl rfl), depthE, depthE, nest_depth ks, List.length_cons, Nat.max_zero]
theorem tok_at (zs : List Int) (p : Nat) : tokT zs p = shT p (tokT (zs.drop p) 0) := tokT_shift zs p 0
theorem peek_c0 (c : Int) (Y : List Int) : peekZ (c :: Y) ((0 : Nat) : Int) = c := by
  unfold peekZ
  rw [if_pos ⟨by decide, by rw [List.length_cons]; omega⟩]
  rfl
theorem peek_c1 (c d : Int) (Y : List Int) : peekZ (c :: d :: Y) ((0 + 1 : Nat) : Int) = d := by
  unfold peekZ
  rw [if_pos ⟨by decide, by rw [List.length_cons, List.length_cons]; omega⟩]
  rfl
theorem blk_at (zs : List Int) (p : Nat) : blkP zs p = p + blkP (zs.drop p) 0 := blkP_shift zs p 0
theorem blk_open (Y : List Int) : blkP (91 :: Y) 0 = 0 := by kernel_rfl
theorem blk_close (Y : List Int) : blkP (93 :: Y) 0 = 0 := by kernel_rfl
theorem blk_left (Y : List Int) : blkP (60 :: Y) 0 = 0 := by kernel_rfl
theorem blk_right (Y : List Int) : blkP (62 :: Y) 0 = 0 := by kernel_rfl
theorem blk_7 (Y : List Int) : blkP (55 :: Y) 0 = 0 := by kernel_rfl
theorem blk_sp (Y : List Int) : blkP (32 :: Y) 0 = 1 + blkP Y 0 := by
  unfold blkP
  rw [List.drop_zero, List.drop_zero, blkZ, if_pos (by decide)]
  omega
theorem tokT_nb (zs : List Int) (t : Tk) (hb : blkP zs 0 = 0) (ht : tokZ zs 0 = t) (he : t.e = 0) : tokT zs 0 = t := by
  unfold tokT
  rw [hb, ht, if_pos he]
theorem tok_open (Y : List Int) : tokT (91 :: Y) 0 = ⟨0, 5, 0, [], 1⟩ := tokT_nb _ _ (blk_open Y) (by
  unfold tokZ
  rw [peek_c0, if_neg (by decide), if_neg (by decide), if_neg (by decide), if_pos rfl]) rfl
theorem tok_close (Y : List Int) : tokT (93 :: Y) 0 = ⟨0, 6, 0, [], 1⟩ := tokT_nb _ _ (blk_close Y) (by
  unfold tokZ
  rw [peek_c0, if_neg (by decide), if_neg (by decide), if_neg (by decide), if_neg (by decide), if_pos rfl]) rfl
theorem tok_left (Y : List Int) : tokT (60 :: 60 :: Y) 0 = ⟨0, 7, 0, [], 2⟩ := tokT_nb _ _ (blk_left _) (by
  unfold tokZ
  rw [peek_c0, peek_c1, if_neg (by decide), if_neg (by decide), if_neg (by decide), if_neg (by decide), if_neg (by decide), if_pos ⟨rfl, rfl⟩]) rfl
theorem tok_right (Y : List Int) : tokT (62 :: 62 :: Y) 0 = ⟨0, 8, 0, [], 2⟩ := tokT_nb _ _ (blk_right _) (by
  unfold tokZ
  rw [peek_c0, peek_c1, if_neg (by decide), if_neg (by decide), if_neg (by decide), if_neg (by decide), if_neg (by decide), if_neg (by decide), if_pos ⟨rfl, rfl⟩]) rfl
theorem tok_key (Y : List Int) : tokT (47 :: 75 :: 32 :: Y) 0 = ⟨0, 4, 0, [75], 2⟩ :=
  (name_tok (47 :: 75 :: 32 :: Y) (32 :: Y) [75] 0 (.inr ⟨32, _, rfl, by decide⟩) rfl (by decide) (by decide) (by simp)).2
theorem tok_7 (Y : List Int) (h : rowZ regB (55 :: Y) = 1) : tokT (55 :: Y) 0 = ⟨0, 1, 7, [], 1⟩ := tokT_nb _ _ (blk_7 _) (by
  unfold tokZ
  rw [peek_c0, if_neg (by decide), if_pos (by decide), List.drop_zero, h]
  kernel_rfl) rfl
theorem tok_7c (Y : List Int) : tokT (55 :: 93 :: Y) 0 = ⟨0, 1, 7, [], 1⟩ := tok_7 _ (by kernel_rfl)
theorem tok_7r (Y : List Int) : tokT (55 :: 62 :: Y) 0 = ⟨0, 1, 7, [], 1⟩ := tok_7 _ (by kernel_rfl)
theorem tok_7e : tokT [55] 0 = ⟨0, 1, 7, [], 1⟩ := tok_7 _ (by kernel_rfl)
theorem tok_e : tokT [] 0 = ⟨0, 0, 0, [], 0⟩ := by kernel_rfl
/-- What may stand behind. -/
def Bhd (rest : List Int) : Prop := rest = [] ∨ (∃ r, rest = 93 :: r) ∨ ∃ r, rest = 62 :: 62 :: r
theorem tokT_blk (zs : List Int) (a b : Nat) (h : blkP zs a = blkP zs b) : tokT zs a = tokT zs b := by unfold tokT; rw [h]
theorem val_blk (zs : List Int) (f d a b : Nat) (h : blkP zs a = blkP zs b) : parF zs (f + 1) .val d a = parF zs (f + 1) .val d b := by
  rw [parF, parF, h, tokT_blk zs a b h]
theorem first_tok (zs : List Int) (ks : List Bool) (p : Nat) (rest : List Int) (hr : Bhd rest) (h : zs.drop p = opL ks ++ 55 :: (clL ks ++ rest)) : (tokT zs p).e = 0 ∧ (tokT zs p).k ≠ 6 ∧ blkP zs p = p := by
  rw [tok_at, blk_at, h]
  match ks with
  | [] =>
    rw [opL, clL, List.nil_append, List.nil_append, blk_7]
    rcases hr with rfl | ⟨r, rfl⟩ | ⟨r, rfl⟩
    · rw [tok_7e]; exact ⟨rfl, by simp [shT], rfl⟩
    · rw [tok_7c]; exact ⟨rfl, by simp [shT], rfl⟩
    · rw [tok_7r]; exact ⟨rfl, by simp [shT], rfl⟩
  | true :: ks =>
    rw [opL, opB, List.append_assoc, List.cons_append, tok_open, blk_open]
    exact ⟨rfl, by simp [shT], rfl⟩
  | false :: ks =>
    rw [opL, opB, List.append_assoc, List.cons_append, List.cons_append, tok_left, blk_left]
    exact ⟨rfl, by simp [shT], rfl⟩
theorem drop_more {zs a b : List Int} {p : Nat} (h : zs.drop p = a ++ b) (n : Nat) (hn : a.length = n) : zs.drop (p + n) = b := by
  rw [← List.drop_drop, h, ← hn, List.drop_left]
set_option maxHeartbeats 2000000 in
theorem deepR (zs : List Int) : ∀ (ks : List Bool) (f d p : Nat) (rest : List Int), Bhd rest → 2 * ks.length + 3 ≤ f → zs.drop p = opL ks ++ 55 :: (clL ks ++ rest) →
    parF zs f .val d p = if ks.length ≤ d then ⟨0, nestO ks, p + (opL ks).length + 1 + (clL ks).length⟩ else noR 6 (p + (opL (ks.take d)).length)
  | [], f + 1, d, p, rest, hr, hf, h => by
    obtain ⟨h0, h6, hb⟩ := first_tok zs [] p rest hr h
    have ht : tokT zs p = ⟨0, 1, 7, [], p + 1⟩ := by
      rw [tok_at, h, opL, clL, List.nil_append, List.nil_append]
      rcases hr with rfl | ⟨r, rfl⟩ | ⟨r, rfl⟩
      · rw [tok_7e]; rfl
      · rw [tok_7c]; rfl
      · rw [tok_7r]; rfl
    have hd : zs.drop (p + 1) = rest := drop_more (a := [55]) (b := rest) (by rw [h]; rfl) 1 rfl
    have hk : (tokT zs (p + 1)).k ≠ 1 := by
      rw [tok_at, hd]
      rcases hr with rfl | ⟨r, rfl⟩ | ⟨r, rfl⟩
      · rw [tok_e]; simp [shT]
      · rw [tok_close]; simp [shT]
      · rw [tok_right]; simp [shT]
    rw [parF, ht, if_neg (fun h => h rfl), if_pos (show ([] : List Bool).length ≤ d from Nat.zero_le _)]
    unfold begR
    rw [if_pos rfl]
    unfold wholeR
    dsimp only
    rw [if_neg (fun hh => by
      have h2 := hh.2
      unfold refB at h2
      rw [decide_eq_false hk] at h2
      simp at h2)]
    rfl
  | true :: ks, f + 1, d, p, rest, hr, hf, h => by
    rw [List.length_cons] at hf
    obtain ⟨F, rfl⟩ : ∃ F, f = F + 2 := ⟨f - 2, by omega⟩
    have h1 : zs.drop p = [91] ++ (opL ks ++ 55 :: (clL ks ++ (93 :: rest))) := by
      rw [h, opL, clL, opB, clB, List.append_assoc, List.append_assoc]; rfl
    have ht : tokT zs p = ⟨0, 5, 0, [], p + 1⟩ := by rw [tok_at, h1]; exact congrArg (shT p) (tok_open _)
    have hb : blkP zs p = p := by rw [blk_at, h1]; exact congrArg (p + ·) (blk_open _)
    have hd := drop_more h1 1 rfl
    obtain ⟨g0, g6, gb⟩ := first_tok zs ks (p + 1) (93 :: rest) (.inr (.inl ⟨_, rfl⟩)) hd
    rw [parF, ht, hb, if_neg (fun h => h rfl)]
    unfold begR
    dsimp only
    rw [if_neg (by decide), if_neg (by decide), if_neg (by decide), if_neg (by decide), if_neg (by decide), if_pos rfl]
    cases d with
    | zero =>
      rw [if_pos rfl, if_neg (by rw [List.length_cons]; omega)]
      rfl
    | succ d =>
      rw [if_neg (Nat.succ_ne_zero d), Nat.add_sub_cancel]
      have IH := deepR zs ks (F + 2) d (p + 1) (93 :: rest) (.inr (.inl ⟨_, rfl⟩)) (by omega) hd
      have hV : begR zs (fun d q => parF zs (F + 1) (.its .nil) d q) (fun d q => parF zs (F + 1) (.ens .nil) d q) (tokT zs (p + 1)) (blkP zs (p + 1)) d = parF zs (F + 2) .val d (p + 1) := by
        rw [parF, if_neg (fun h => h g0)]
      rw [parF, if_neg (fun h => h g0), if_neg g6, hV, IH, List.length_cons]
      by_cases hl : ks.length ≤ d
      · rw [if_pos hl, if_pos (show ks.length + 1 ≤ d + 1 by omega), if_neg (fun h => h rfl)]
        dsimp only
        have hd2 : zs.drop (p + 1 + (opL ks).length + 1 + (clL ks).length) = 93 :: rest := by
          have e1 := drop_more hd (opL ks).length rfl
          have e2 := drop_more (a := [55]) (b := clL ks ++ 93 :: rest) e1 1 rfl
          exact drop_more e2 (clL ks).length rfl
        have ht2 : tokT zs (p + 1 + (opL ks).length + 1 + (clL ks).length) = ⟨0, 6, 0, [], p + 1 + (opL ks).length + 1 + (clL ks).length + 1⟩ := by
          rw [tok_at, hd2, tok_close]; rfl
        rw [parF, ht2, if_neg (fun h => h rfl), if_pos rfl]
        rw [opL, clL, opB, clB, nestO, List.length_append, List.length_append]
        congr 1
        show p + 1 + (opL ks).length + 1 + (clL ks).length + 1 = p + (1 + (opL ks).length) + 1 + ((clL ks).length + 1)
        omega
      · rw [if_neg hl, if_neg (show ¬ ks.length + 1 ≤ d + 1 by omega), if_pos (show (noR 6 _).e ≠ 0 from (by decide : (6 : Int) ≠ 0))]
        rw [List.take_succ_cons, opL, opB, List.length_append]
        show noR 6 (p + 1 + (opL (ks.take d)).length) = noR 6 (p + (1 + (opL (ks.take d)).length))
        rw [Nat.add_assoc]
  | false :: ks, f + 1, d, p, rest, hr, hf, h => by
    rw [List.length_cons] at hf
    obtain ⟨F, rfl⟩ : ∃ F, f = F + 3 := ⟨f - 3, by omega⟩
    have h1 : zs.drop p = [60, 60] ++ (47 :: 75 :: 32 :: (opL ks ++ 55 :: (clL ks ++ (62 :: 62 :: rest)))) := by
      rw [h, opL, clL, opB, clB, List.append_assoc, List.append_assoc]; rfl
    have ht : tokT zs p = ⟨0, 7, 0, [], p + 2⟩ := by rw [tok_at, h1]; exact congrArg (shT p) (tok_left _)
    have hb : blkP zs p = p := by rw [blk_at, h1]; exact congrArg (p + ·) (blk_left _)
    have hk1 := drop_more h1 2 rfl
    have htk : tokT zs (p + 2) = ⟨0, 4, 0, [75], p + 2 + 2⟩ := by rw [tok_at, hk1]; exact congrArg (shT (p + 2)) (tok_key _)
    have hk2 : zs.drop (p + 2 + 2) = [32] ++ (opL ks ++ 55 :: (clL ks ++ (62 :: 62 :: rest))) := drop_more (a := [47, 75]) hk1 2 rfl
    have hd := drop_more hk2 1 rfl
    obtain ⟨g0, g6, gb⟩ := first_tok zs ks (p + 2 + 2 + 1) (62 :: 62 :: rest) (.inr (.inr ⟨_, rfl⟩)) hd
    have hbs : blkP zs (p + 2 + 2) = blkP zs (p + 2 + 2 + 1) := by
      have e1 := blk_at zs (p + 2 + 2)
      have e2 := blk_at zs (p + 2 + 2 + 1)
      rw [hk2] at e1
      rw [hd] at e2
      have e3 := blk_sp (opL ks ++ 55 :: (clL ks ++ (62 :: 62 :: rest)))
      rw [e1, e2]
      show p + 2 + 2 + blkP (32 :: (opL ks ++ 55 :: (clL ks ++ (62 :: 62 :: rest)))) 0 = _
      rw [e3]; omega
    rw [parF, ht, hb, if_neg (fun h => h rfl)]
    unfold begR
    dsimp only
    rw [if_neg (by decide), if_neg (by decide), if_neg (by decide), if_neg (by decide), if_neg (by decide), if_neg (by decide), if_pos rfl]
    cases d with
    | zero =>
      rw [if_pos rfl, if_neg (by rw [List.length_cons]; omega)]
      rfl
    | succ d =>
      rw [if_neg (Nat.succ_ne_zero d), Nat.add_sub_cancel]
      have IH := deepR zs ks (F + 2) d (p + 2 + 2 + 1) (62 :: 62 :: rest) (.inr (.inr ⟨_, rfl⟩)) (by omega) hd
      rw [← val_blk zs (F + 1) d (p + 2 + 2) (p + 2 + 2 + 1) hbs] at IH
      rw [parF, htk, if_neg (fun h => h rfl), if_neg (show ¬ (4 : Int) = 8 by decide), if_neg (show ¬ (4 : Int) = 0 by decide), if_neg (by simp [hasK])]
      dsimp only
      rw [IH, List.length_cons]
      by_cases hl : ks.length ≤ d
      · rw [if_pos hl, if_pos (show ks.length + 1 ≤ d + 1 by omega), if_neg (fun h => h rfl)]
        dsimp only
        have hd2 : zs.drop (p + 2 + 2 + 1 + (opL ks).length + 1 + (clL ks).length) = 62 :: 62 :: rest := by
          have e1 := drop_more hd (opL ks).length rfl
          have e2 := drop_more (a := [55]) (b := clL ks ++ 62 :: 62 :: rest) e1 1 rfl
          exact drop_more e2 (clL ks).length rfl
        have ht2 : tokT zs (p + 2 + 2 + 1 + (opL ks).length + 1 + (clL ks).length) = ⟨0, 8, 0, [], p + 2 + 2 + 1 + (opL ks).length + 1 + (clL ks).length + 2⟩ := by
          rw [tok_at, hd2, tok_right]; rfl
        rw [parF, ht2, if_neg (fun h => h rfl), if_pos rfl]
        rw [opL, clL, opB, clB, nestO, List.length_append, List.length_append]
        have hdf : dictF (Ens.snoc .nil (strOfNums [75]) (nestO ks)) .nil = .cons strK (nestO ks) .nil := by
          rw [Ens.snoc, dictF, dictF, decide_eq_false (nest_kind ks)]
          rfl
        rw [hdf]
        congr 1
        show p + 2 + 2 + 1 + (opL ks).length + 1 + (clL ks).length + 2 = p + (5 + (opL ks).length) + 1 + ((clL ks).length + 2)
        omega
      · rw [if_neg hl, if_neg (show ¬ ks.length + 1 ≤ d + 1 by omega), if_pos (show (noR 6 _).e ≠ 0 from (by decide : (6 : Int) ≠ 0))]
        rw [List.take_succ_cons, opL, opB, List.length_append]
        show noR 6 (p + 2 + 2 + 1 + (opL (ks.take d)).length) = noR 6 (p + (5 + (opL (ks.take d)).length))
        congr 1
        omega
end
end Go.Proofs.Ytnlpdnimfaipmaa
