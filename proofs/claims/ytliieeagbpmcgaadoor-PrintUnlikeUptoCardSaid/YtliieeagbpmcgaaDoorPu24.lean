/- Contracts of functions that the law calls, and what they lean on (a part). -/
import Derived.Test.YtliieeagbpmcgaaDoorPu8
import Derived.Test.YtliieeagbpmcgaaDoorPu15
import Derived.Test.YtliieeagbpmcgaaDoorPu22
import Derived.Test.YtliieeagbpmcgaaDoorPu23
namespace Go.Proofs.YtliieeagbpmcgaaDoor
section
open Go.RowKit
set_option linter.unusedVariables false
set_option maxRecDepth 100000
/-- A byte that a name holds as it is. -/
def plB (c : Int) : Bool := decide (33 ≤ c) && decide (c ≤ 126) && regB c && !(c == 35)
/-- The bytes of a name, written. -/
def nmS : List Int → List Int
  | [] => []
  | c :: cs => (if plB c = true then [c] else [35, hxD (c / 16), hxD (c % 16)]) ++ nmS cs
/-- A byte that a string holds as it is. -/
def txB (c : Int) : Bool := decide (32 ≤ c) && decide (c ≤ 126) && !(c == 40) && !(c == 41) && !(c == 92)
theorem peek_on {zs l : List Int} {q : Nat} {c : Int} (h : zs.drop q = c :: l) : peekZ zs (q : Int) = c := by
  have := peek_shift zs q 0
  rw [Nat.add_zero, h, peek_0] at this
  exact this
theorem drop_one {zs l : List Int} {q : Nat} {c : Int} (h : zs.drop q = c :: l) : zs.drop (q + 1) = l := drop_on (l := [c]) h
theorem peek_off {zs : List Int} {q : Nat} (h : zs.drop q = []) : peekZ zs (q : Int) = -1 := peekZ_nat zs q (List.drop_eq_nil_iff.1 h)
theorem name_back (zs rest : List Int) (hr : rest = [] ∨ ∃ r rs, rest = r :: rs ∧ regB r = false) : ∀ (bs : List Int) (f p : Nat) (o : List Int), zs.drop p = nmS bs ++ rest → (∀ z ∈ bs, 0 < z ∧ z < 256) → o.length + bs.length ≤ 127 → bs.length < f →
    nameF zs f p o = (0, o ++ bs, p + (nmS bs).length)
  | [], 0, p, o, h, _, _, hf => absurd hf (Nat.lt_irrefl _)
  | [], f + 1, p, o, h, _, _, _ => by
    have e : regB (peekZ zs (p : Int)) = false := by
      rcases hr with rfl | ⟨r, rs, rfl, hb⟩
      · rw [peek_off h]; decide
      · rw [peek_on h]; exact hb
    rw [nameF, if_pos e, List.append_nil]
    rfl
  | c :: cs, 0, p, o, h, _, _, hf => absurd hf (Nat.not_lt_zero _)
  | c :: cs, f + 1, p, o, h, hz, ho, hf => by
    have hc := hz c (List.mem_cons_self ..)
    have hcs : ∀ z ∈ cs, 0 < z ∧ z < 256 := fun z hm => hz z (List.mem_cons_of_mem _ hm)
    rw [List.length_cons] at ho hf
    by_cases hp : plB c = true
    · have h1 : zs.drop p = c :: (nmS cs ++ rest) := by rw [h, nmS, if_pos hp]; rfl
      have hpk := peek_on h1
      have hreg : regB c = true := by
        have := hp
        unfold plB at this
        simp at this
        exact this.1.2
      have h35 : ¬ c = 35 := by
        have := hp
        unfold plB at this
        simp at this
        exact this.2
      rw [nameF, hpk, if_neg (by rw [hreg]; decide), if_neg h35, if_neg (by omega), name_back zs rest hr cs f (p + 1) (o ++ [c]) (drop_one h1) hcs (by rw [List.length_append, List.length_singleton]; omega) (by omega)]
      rw [nmS, if_pos hp, List.append_assoc, List.length_append]
      show (0, o ++ ([c] ++ cs), p + 1 + (nmS cs).length) = (0, o ++ c :: cs, p + ([c].length + (nmS cs).length))
      rw [List.length_singleton, Nat.add_assoc]
      rfl
    · have h1 : zs.drop p = 35 :: hxD (c / 16) :: hxD (c % 16) :: (nmS cs ++ rest) := by rw [h, nmS, if_neg hp]; rfl
      have h2 := drop_one h1
      have h3 := drop_one h2
      have h4 := drop_one h3
      have d1 := hxD_ok (c / 16) (by omega) (by omega)
      have d2 := hxD_ok (c % 16) (by omega) (by omega)
      rw [nameF, peek_on h1, peek_on h2, show peekZ zs ((p + 2 : Nat) : Int) = hxD (c % 16) from peek_on h3, d1.1, d2.1, if_neg (by decide), if_pos rfl, if_neg (by omega), if_neg (by omega), show c / 16 * 16 + c % 16 = c by omega,
        name_back zs rest hr cs f (p + 3) (o ++ [c]) h4 hcs (by rw [List.length_append, List.length_singleton]; omega) (by omega)]
      rw [nmS, if_neg hp, List.append_assoc, List.length_append]
      show (0, o ++ ([c] ++ cs), p + 3 + (nmS cs).length) = (0, o ++ c :: cs, p + (3 + (nmS cs).length))
      rw [Nat.add_assoc]
      rfl
theorem text_back (zs rest : List Int) : ∀ (bs : List Int) (f p : Nat) (o : List Int), zs.drop p = bs ++ 41 :: rest → (∀ z ∈ bs, txB z = true) → o.length + bs.length ≤ 32767 → bs.length < f →
    textF zs f p 1 o = (0, o ++ bs, p + bs.length + 1)
  | [], 0, p, o, h, _, _, hf => absurd hf (Nat.lt_irrefl _)
  | [], f + 1, p, o, h, _, _, _ => by
    have hpk : peekZ zs (p : Int) = 41 := peek_on h
    have hp : pcZ zs p = (41, p + 1, -1) := by unfold pcZ; rw [hpk, if_neg (by decide), if_neg (by decide), if_neg (by decide), if_pos rfl]
    have hlt : p < zs.length := peekZ_lt zs p (by omega)
    rw [textF, if_neg (by omega), hp, if_pos (show (1 : Int) + -1 = 0 by decide), List.append_nil]
    rfl
  | c :: cs, 0, p, o, h, _, _, hf => absurd hf (Nat.not_lt_zero _)
  | c :: cs, f + 1, p, o, h, hz, ho, hf => by
    have hc := hz c (List.mem_cons_self ..)
    rw [List.length_cons] at ho hf
    have hpk : peekZ zs (p : Int) = c := peek_on h
    have hb : 32 ≤ c ∧ c ≤ 126 ∧ c ≠ 40 ∧ c ≠ 41 ∧ c ≠ 92 := by
      unfold txB at hc
      simp at hc
      omega
    have hp : pcZ zs p = (c, p + 1, 0) := by unfold pcZ; rw [hpk, if_neg (by omega), if_neg (by omega), if_neg (by omega), if_neg (by omega)]
    have hlt : p < zs.length := peekZ_lt zs p (by omega)
    rw [textF, if_neg (by omega), hp]
    show (if (1 : Int) + 0 = 0 then _ else if c < 0 then _ else if 32767 ≤ o.length then _ else textF zs f (p + 1) (1 + 0) (o ++ [c])) = _
    rw [if_neg (by decide), if_neg (by omega), if_neg (by omega), Int.add_zero, text_back zs rest cs f (p + 1) (o ++ [c]) (drop_one h) (fun z hm => hz z (List.mem_cons_of_mem _ hm)) (by rw [List.length_append, List.length_singleton]; omega) (by omega), List.append_assoc, List.length_cons]
    show (0, o ++ ([c] ++ cs), p + 1 + cs.length + 1) = (0, o ++ c :: cs, p + (cs.length + 1) + 1)
    rw [show p + 1 + cs.length + 1 = p + (cs.length + 1) + 1 by omega]
    rfl
/-- The bytes of a string, written. -/
def txS (s : List Int) : List Int := if (s.all txB) = true then 40 :: (s ++ [41]) else 60 :: (hxB s ++ [62])
theorem tok_no {zs : List Int} {p : Nat} {c : Int} (h : peekZ zs (p : Int) = c) (hw : whB c = false) (h37 : c ≠ 37) : blkP zs p = p := blkP_no zs p (by rw [h]; exact hw) (by rw [h]; exact h37)
theorem tokT_of {zs : List Int} {p : Nat} (hb : blkP zs p = p) {t : Tk} (ht : tokZ zs p = t) (h0 : t.e = 0) : tokT zs p = t := by
  unfold tokT
  rw [hb, ht, if_pos h0]
theorem name_tok (zs rest bs : List Int) (p : Nat) (hr : rest = [] ∨ ∃ r rs, rest = r :: rs ∧ regB r = false) (h : zs.drop p = 47 :: (nmS bs ++ rest)) (hz : ∀ z ∈ bs, 0 < z ∧ z < 256) (hl : bs.length ≤ 127) (hf : bs.length ≤ zs.length) :
    blkP zs p = p ∧ tokT zs p = ⟨0, 4, 0, bs, p + 1 + (nmS bs).length⟩ := by
  have hpk := peek_on h
  have hb := tok_no hpk (by decide) (by decide)
  have hn := name_back zs rest hr bs (zs.length + 1) (p + 1) [] (drop_one h) hz (by simpa using hl) (by omega)
  refine ⟨hb, tokT_of hb ?_ rfl⟩
  rw [tokZ, hpk, if_neg (by decide), if_neg (by decide), if_neg (by decide), if_neg (by decide), if_neg (by decide), if_neg (fun hh => absurd hh.1 (by decide)), if_neg (fun hh => absurd hh.1 (by decide)), if_pos rfl, hn]
  rfl
theorem end_tok (zs : List Int) (p : Nat) (h : zs.drop p = []) : blkP zs p = p ∧ tokT zs p = ⟨0, 0, 0, [], p⟩ := by
  have hpk := peek_off h
  have hb := tok_no hpk (by decide) (by decide)
  refine ⟨hb, tokT_of hb ?_ rfl⟩
  rw [tokZ, hpk, if_pos (by decide)]
theorem hxB_pr (s : List Int) (hz : ∀ z ∈ s, 0 ≤ z ∧ z < 256) : ∀ z ∈ hxB s, prB z = true := fun z hm => by
  have := hxB_rng s hz z hm
  unfold prB
  simp
  exact .inl this.2.2.2.1
end

section
open Go.RowKit
set_option linter.unusedVariables false
set_option maxRecDepth 100000
/-- What is wrong, the object, where one stands. -/
structure Rt where
  e : Int
  x : Ob
  q : Nat
def nulO : Ob := .mk 0 0 [] .nil .nil
def noR (e : Int) (q : Nat) : Rt := ⟨e, nulO, q⟩
def strR : ByteArray := ⟨#[82]⟩
/-- Behind a place stand a 0 and an R. -/
def refB (zs : List Int) (q : Nat) : Bool := decide ((tokT zs q).e = 0) && (decide ((tokT zs q).k = 1) && (decide ((tokT zs q).v = 0) && kwB zs (tokT zs q).q strR))
def wholeR (zs : List Int) (v : Int) (q : Nat) : Rt := if (1 ≤ v ∧ v ≤ 8388607) ∧ refB zs q = true then ⟨0, .mk 9 v [] .nil .nil, kwP zs (tokT zs q).q strR⟩ else ⟨0, .mk 2 v [] .nil .nil, q⟩
def hasK (s : ByteArray) : Ens → Bool
  | .nil => false
  | .cons t _ xs => decide (t = s) || hasK s xs
def wordR (b : List Int) (a q : Nat) : Rt :=
  if b = [116, 114, 117, 101] then ⟨0, .mk 1 1 [] .nil .nil, q⟩ else if b = [102, 97, 108, 115, 101] then ⟨0, .mk 1 0 [] .nil .nil, q⟩ else if b = [110, 117, 108, 108] then ⟨0, nulO, q⟩ else noR 4 a
/-- What a token begins. -/
def begR (zs : List Int) (its ens : Nat → Nat → Rt) (t : Tk) (a d : Nat) : Rt :=
  if t.k = 1 then wholeR zs t.v t.q
  else if t.k = 2 then ⟨0, .mk 3 t.v [] .nil .nil, t.q⟩
  else if t.k = 3 then ⟨0, .mk 4 0 t.b .nil .nil, t.q⟩
  else if t.k = 4 then ⟨0, .mk 5 0 t.b .nil .nil, t.q⟩
  else if t.k = 9 then wordR t.b a t.q
  else if t.k = 5 then (if d = 0 then noR 6 a else its (d - 1) t.q)
  else if t.k = 7 then (if d = 0 then noR 6 a else ens (d - 1) t.q)
  else if t.k = 0 then noR 2 a
  else noR 4 a
inductive Md where
  | val : Md
  | its (l : Obs) : Md
  | ens (l : Ens) : Md
def parF (zs : List Int) : Nat → Md → Nat → Nat → Rt
  | 0, _, _, p => noR 4 p
  | f + 1, .val, d, p =>
    if (tokT zs p).e ≠ 0 then noR (tokT zs p).e (tokT zs p).q
    else begR zs (fun d q => parF zs f (.its .nil) d q) (fun d q => parF zs f (.ens .nil) d q) (tokT zs p) (blkP zs p) d
  | f + 1, .its l, d, p =>
    if (tokT zs p).e ≠ 0 then noR (tokT zs p).e (tokT zs p).q
    else if (tokT zs p).k = 6 then ⟨0, .mk 6 0 [] l .nil, (tokT zs p).q⟩
    else if (begR zs (fun d q => parF zs f (.its .nil) d q) (fun d q => parF zs f (.ens .nil) d q) (tokT zs p) (blkP zs p) d).e ≠ 0 then noR (begR zs (fun d q => parF zs f (.its .nil) d q) (fun d q => parF zs f (.ens .nil) d q) (tokT zs p) (blkP zs p) d).e (begR zs (fun d q => parF zs f (.its .nil) d q) (fun d q => parF zs f (.ens .nil) d q) (tokT zs p) (blkP zs p) d).q
    else parF zs f (.its (l.snoc (begR zs (fun d q => parF zs f (.its .nil) d q) (fun d q => parF zs f (.ens .nil) d q) (tokT zs p) (blkP zs p) d).x)) d (begR zs (fun d q => parF zs f (.its .nil) d q) (fun d q => parF zs f (.ens .nil) d q) (tokT zs p) (blkP zs p) d).q
  | f + 1, .ens l, d, p =>
    if (tokT zs p).e ≠ 0 then noR (tokT zs p).e (tokT zs p).q
    else if (tokT zs p).k = 8 then ⟨0, .mk 7 0 [] .nil (dictF l .nil), (tokT zs p).q⟩
    else if (tokT zs p).k = 0 then noR 2 (blkP zs p)
    else if (tokT zs p).k ≠ 4 ∨ hasK (strOfNums (tokT zs p).b) l = true then noR 4 (blkP zs p)
    else if (parF zs f .val d (tokT zs p).q).e ≠ 0 then noR (parF zs f .val d (tokT zs p).q).e (parF zs f .val d (tokT zs p).q).q
    else parF zs f (.ens (l.snoc (strOfNums (tokT zs p).b) (parF zs f .val d (tokT zs p).q).x)) d (parF zs f .val d (tokT zs p).q).q
end

section
open Go.RowKit
set_option linter.unusedVariables false
set_option maxRecDepth 100000
theorem tok_at (zs : List Int) (p : Nat) : tokT zs p = shT p (tokT (zs.drop p) 0) := tokT_shift zs p 0
theorem peek_c0 (c : Int) (Y : List Int) : peekZ (c :: Y) ((0 : Nat) : Int) = c := by
  unfold peekZ
  rw [if_pos ⟨by decide, by rw [List.length_cons]; omega⟩]
  rfl
theorem peek_c1 (c d : Int) (Y : List Int) : peekZ (c :: d :: Y) ((0 + 1 : Nat) : Int) = d := by
  unfold peekZ
  rw [if_pos ⟨by decide, by rw [List.length_cons, List.length_cons]; omega⟩]
  rfl
theorem blk_at (zs : List Int) (p : Nat) : blkP zs p = p + blkP (zs.drop p) 0 := blkP_shift zs p 0
theorem blk_open (Y : List Int) : blkP (91 :: Y) 0 = 0 := by kernel_rfl
theorem blk_close (Y : List Int) : blkP (93 :: Y) 0 = 0 := by kernel_rfl
theorem blk_left (Y : List Int) : blkP (60 :: Y) 0 = 0 := by kernel_rfl
theorem blk_right (Y : List Int) : blkP (62 :: Y) 0 = 0 := by kernel_rfl
theorem tokT_nb (zs : List Int) (t : Tk) (hb : blkP zs 0 = 0) (ht : tokZ zs 0 = t) (he : t.e = 0) : tokT zs 0 = t := by
  unfold tokT
  rw [hb, ht, if_pos he]
theorem tok_open (Y : List Int) : tokT (91 :: Y) 0 = ⟨0, 5, 0, [], 1⟩ := tokT_nb _ _ (blk_open Y) (by
  unfold tokZ
  rw [peek_c0, if_neg (by decide), if_neg (by decide), if_neg (by decide), if_pos rfl]) rfl
theorem tok_close (Y : List Int) : tokT (93 :: Y) 0 = ⟨0, 6, 0, [], 1⟩ := tokT_nb _ _ (blk_close Y) (by
  unfold tokZ
  rw [peek_c0, if_neg (by decide), if_neg (by decide), if_neg (by decide), if_neg (by decide), if_pos rfl]) rfl
theorem tok_left (Y : List Int) : tokT (60 :: 60 :: Y) 0 = ⟨0, 7, 0, [], 2⟩ := tokT_nb _ _ (blk_left _) (by
  unfold tokZ
  rw [peek_c0, peek_c1, if_neg (by decide), if_neg (by decide), if_neg (by decide), if_neg (by decide), if_neg (by decide), if_pos ⟨rfl, rfl⟩]) rfl
theorem tok_right (Y : List Int) : tokT (62 :: 62 :: Y) 0 = ⟨0, 8, 0, [], 2⟩ := tokT_nb _ _ (blk_right _) (by
  unfold tokZ
  rw [peek_c0, peek_c1, if_neg (by decide), if_neg (by decide), if_neg (by decide), if_neg (by decide), if_neg (by decide), if_neg (by decide), if_pos ⟨rfl, rfl⟩]) rfl
theorem tokT_blk (zs : List Int) (a b : Nat) (h : blkP zs a = blkP zs b) : tokT zs a = tokT zs b := by unfold tokT; rw [h]
theorem drop_more {zs a b : List Int} {p : Nat} (h : zs.drop p = a ++ b) (n : Nat) (hn : a.length = n) : zs.drop (p + n) = b := by
  rw [← List.drop_drop, h, ← hn, List.drop_left]
end

section
open Go.RowKit
set_option linter.unusedVariables false
set_option maxRecDepth 100000
theorem at_of {zs l : List Int} {p : Nat} (h : zs.drop p = l) : tokT zs p = shT p (tokT l 0) ∧ blkP zs p = p + blkP l 0 := ⟨by rw [tok_at, h], by rw [blk_at, h]⟩
theorem drop_n {zs a b : List Int} {p : Nat} (h : zs.drop p = a ++ b) : zs.drop (p + a.length) = b := drop_more h _ rfl
/-- A white sign. -/
theorem at_wh {zs rest : List Int} {p : Nat} {c : Int} (h : zs.drop p = c :: rest) (hc : whB c = true) : blkP zs p = blkP zs (p + 1) ∧ tokT zs p = tokT zs (p + 1) ∧ zs.drop (p + 1) = rest := by
  have hb := (blkP_wh zs p (by rw [peek_on h]; exact hc)).2
  exact ⟨hb, tokT_blk zs _ _ hb, drop_one h⟩
theorem at_num {zs rest : List Int} {p : Nat} {n : Int} {whole : Bool} (hn : inB n = true) (hw : whole = true → -2147483647 ≤ n ∧ n ≤ 2147483647) (he : rowZ regB rest = 0) (h : zs.drop p = zsB (textB n whole) ++ rest) :
    blkP zs p = p ∧ tokT zs p = ⟨0, if whole = true then 1 else 2, n, [], p + (textB n whole).length⟩ ∧ zs.drop (p + (textB n whole).length) = rest := by
  have h1 := num_tok n whole hn hw rest he
  have h2 := at_of h
  rw [h1.1] at h2
  rw [h1.2] at h2
  exact ⟨h2.2, h2.1, drop_more h _ (by simp [zsB])⟩
theorem row_stopR {rest : List Int} (K : Int → Bool) (hr : rest = [] ∨ ∃ r rs, rest = r :: rs ∧ K r = false) : rowZ K rest = 0 := by
  rcases hr with rfl | ⟨r, rs, rfl, hb⟩
  · rfl
  · rw [rowZ, if_neg (by rw [hb]; decide)]
theorem at_word {zs w rest : List Int} {p : Nat} {c : Int} (h : zs.drop p = (c :: w) ++ rest) (hw : ∀ z ∈ c :: w, regB z = true) (h0 : nmB c = false) (hl : (c :: w).length ≤ 127) (hr : rest = [] ∨ ∃ r rs, rest = r :: rs ∧ regB r = false) :
    blkP zs p = p ∧ tokT zs p = ⟨0, 9, 0, c :: w, p + (c :: w).length⟩ ∧ zs.drop (p + (c :: w).length) = rest := by
  have hc := hw c (by simp)
  have hpk := peek_on (l := w ++ rest) h
  have hreg := hc
  unfold regB delB at hreg
  simp only [Bool.and_eq_true, Bool.not_eq_true', decide_eq_true_eq, Bool.or_eq_false_iff, beq_eq_false_iff_ne] at hreg
  have hb := tok_no hpk (by simpa using hreg.2.2) (by omega)
  have hrow : rowZ regB (zs.drop p) = (c :: w).length := by rw [h, row_app regB _ _ hw, row_stopR regB hr]; rfl
  refine ⟨hb, tokT_of hb ?_ rfl, drop_n h⟩
  rw [tokZ, hpk, if_neg (by omega), if_neg (by rw [h0]; decide), if_pos hc, hrow, if_neg (by omega), h, List.take_left]
theorem at_left {zs rest : List Int} {p : Nat} (h : zs.drop p = 60 :: 60 :: rest) : blkP zs p = p ∧ tokT zs p = ⟨0, 7, 0, [], p + 2⟩ ∧ zs.drop (p + 2) = rest := by
  have h2 := at_of h
  rw [blk_left, tok_left] at h2
  exact ⟨h2.2, h2.1, drop_more (a := [60, 60]) h 2 rfl⟩
theorem at_right {zs rest : List Int} {p : Nat} (h : zs.drop p = 62 :: 62 :: rest) : blkP zs p = p ∧ tokT zs p = ⟨0, 8, 0, [], p + 2⟩ ∧ zs.drop (p + 2) = rest := by
  have h2 := at_of h
  rw [blk_right, tok_right] at h2
  exact ⟨h2.2, h2.1, drop_more (a := [62, 62]) h 2 rfl⟩
theorem at_open {zs rest : List Int} {p : Nat} (h : zs.drop p = 91 :: rest) : blkP zs p = p ∧ tokT zs p = ⟨0, 5, 0, [], p + 1⟩ ∧ zs.drop (p + 1) = rest := by
  have h2 := at_of h
  rw [blk_open, tok_open] at h2
  exact ⟨h2.2, h2.1, drop_more (a := [91]) h 1 rfl⟩
theorem at_close {zs rest : List Int} {p : Nat} (h : zs.drop p = 93 :: rest) : blkP zs p = p ∧ tokT zs p = ⟨0, 6, 0, [], p + 1⟩ ∧ zs.drop (p + 1) = rest := by
  have h2 := at_of h
  rw [blk_close, tok_close] at h2
  exact ⟨h2.2, h2.1, drop_more (a := [93]) h 1 rfl⟩
theorem at_name {zs bs rest : List Int} {p : Nat} (hr : rest = [] ∨ ∃ r rs, rest = r :: rs ∧ regB r = false) (h : zs.drop p = 47 :: (nmS bs ++ rest)) (hz : ∀ z ∈ bs, 0 < z ∧ z < 256) (hl : bs.length ≤ 127) (hf : bs.length ≤ zs.length) :
    blkP zs p = p ∧ tokT zs p = ⟨0, 4, 0, bs, p + 1 + (nmS bs).length⟩ ∧ zs.drop (p + 1 + (nmS bs).length) = rest := by
  have h2 := name_tok zs rest bs p hr h hz hl hf
  exact ⟨h2.1, h2.2, drop_more (drop_one h) _ rfl⟩
end
end Go.Proofs.YtliieeagbpmcgaaDoor
