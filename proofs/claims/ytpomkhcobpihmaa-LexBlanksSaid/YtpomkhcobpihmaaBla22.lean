/- Contracts of functions that the law calls, and what they lean on (a part). -/
import Derived.Test.YtpomkhcobpihmaaBla17
import Derived.Test.YtpomkhcobpihmaaBla18
import Derived.Test.YtpomkhcobpihmaaBla21
namespace Go.Proofs.Ytpomkhcobpihmaa
section
open Go.RowKit
set_option linter.unusedVariables false
set_option maxRecDepth 100000
/-- A byte that a name holds as it is. -/
def plB (c : Int) : Bool := decide (33 ≤ c) && decide (c ≤ 126) && regB c && !(c == 35)
/-- The bytes of a name, written. -/
def nmS : List Int → List Int
  | [] => []
  | c :: cs => (if plB c = true then [c] else [35, hxD (c / 16), hxD (c % 16)]) ++ nmS cs
theorem peek_on {zs l : List Int} {q : Nat} {c : Int} (h : zs.drop q = c :: l) : peekZ zs (q : Int) = c := by
  have := peek_shift zs q 0
  rw [Nat.add_zero, h, peek_0] at this
  exact this
theorem drop_one {zs l : List Int} {q : Nat} {c : Int} (h : zs.drop q = c :: l) : zs.drop (q + 1) = l := drop_on (l := [c]) h
theorem peek_off {zs : List Int} {q : Nat} (h : zs.drop q = []) : peekZ zs (q : Int) = -1 := peekZ_nat zs q (List.drop_eq_nil_iff.1 h)
theorem name_back (zs rest : List Int) (hr : rest = [] ∨ ∃ r rs, rest = r :: rs ∧ regB r = false) : ∀ (bs : List Int) (f p : Nat) (o : List Int), zs.drop p = nmS bs ++ rest → (∀ z ∈ bs, 0 < z ∧ z < 256) → o.length + bs.length ≤ 127 → bs.length < f →
    nameF zs f p o = (0, o ++ bs, p + (nmS bs).length)
  | [], 0, p, o, h, _, _, hf => absurd hf (Nat.lt_irrefl _)
  | [], f + 1, p, o, h, _, _, _ => by
    have e : regB (peekZ zs (p : Int)) = false := by
      rcases hr with rfl | ⟨r, rs, rfl, hb⟩
      · rw [peek_off h]; decide
      · rw [peek_on h]; exact hb
    rw [nameF, if_pos e, List.append_nil]
    rfl
  | c :: cs, 0, p, o, h, _, _, hf => absurd hf (Nat.not_lt_zero _)
  | c :: cs, f + 1, p, o, h, hz, ho, hf => by
    have hc := hz c (List.mem_cons_self ..)
    have hcs : ∀ z ∈ cs, 0 < z ∧ z < 256 := fun z hm => hz z (List.mem_cons_of_mem _ hm)
    rw [List.length_cons] at ho hf
    by_cases hp : plB c = true
    · have h1 : zs.drop p = c :: (nmS cs ++ rest) := by rw [h, nmS, if_pos hp]; rfl
      have hpk := peek_on h1
      have hreg : regB c = true := by
        have := hp
        unfold plB at this
        simp at this
        exact this.1.2
      have h35 : ¬ c = 35 := by
        have := hp
        unfold plB at this
        simp at this
        exact this.2
      rw [nameF, hpk, if_neg (by rw [hreg]; decide), if_neg h35, if_neg (by omega), name_back zs rest hr cs f (p + 1) (o ++ [c]) (drop_one h1) hcs (by rw [List.length_append, List.length_singleton]; omega) (by omega)]
      rw [nmS, if_pos hp, List.append_assoc, List.length_append]
      show (0, o ++ ([c] ++ cs), p + 1 + (nmS cs).length) = (0, o ++ c :: cs, p + ([c].length + (nmS cs).length))
      rw [List.length_singleton, Nat.add_assoc]
      rfl
    · have h1 : zs.drop p = 35 :: hxD (c / 16) :: hxD (c % 16) :: (nmS cs ++ rest) := by rw [h, nmS, if_neg hp]; rfl
      have h2 := drop_one h1
      have h3 := drop_one h2
      have h4 := drop_one h3
      have d1 := hxD_ok (c / 16) (by omega) (by omega)
      have d2 := hxD_ok (c % 16) (by omega) (by omega)
      rw [nameF, peek_on h1, peek_on h2, show peekZ zs ((p + 2 : Nat) : Int) = hxD (c % 16) from peek_on h3, d1.1, d2.1, if_neg (by decide), if_pos rfl, if_neg (by omega), if_neg (by omega), show c / 16 * 16 + c % 16 = c by omega,
        name_back zs rest hr cs f (p + 3) (o ++ [c]) h4 hcs (by rw [List.length_append, List.length_singleton]; omega) (by omega)]
      rw [nmS, if_neg hp, List.append_assoc, List.length_append]
      show (0, o ++ ([c] ++ cs), p + 3 + (nmS cs).length) = (0, o ++ c :: cs, p + (3 + (nmS cs).length))
      rw [Nat.add_assoc]
      rfl
theorem tok_no {zs : List Int} {p : Nat} {c : Int} (h : peekZ zs (p : Int) = c) (hw : whB c = false) (h37 : c ≠ 37) : blkP zs p = p := blkP_no zs p (by rw [h]; exact hw) (by rw [h]; exact h37)
theorem tokT_of {zs : List Int} {p : Nat} (hb : blkP zs p = p) {t : Tk} (ht : tokZ zs p = t) (h0 : t.e = 0) : tokT zs p = t := by
  unfold tokT
  rw [hb, ht, if_pos h0]
theorem name_tok (zs rest bs : List Int) (p : Nat) (hr : rest = [] ∨ ∃ r rs, rest = r :: rs ∧ regB r = false) (h : zs.drop p = 47 :: (nmS bs ++ rest)) (hz : ∀ z ∈ bs, 0 < z ∧ z < 256) (hl : bs.length ≤ 127) (hf : bs.length ≤ zs.length) :
    blkP zs p = p ∧ tokT zs p = ⟨0, 4, 0, bs, p + 1 + (nmS bs).length⟩ := by
  have hpk := peek_on h
  have hb := tok_no hpk (by decide) (by decide)
  have hn := name_back zs rest hr bs (zs.length + 1) (p + 1) [] (drop_one h) hz (by simpa using hl) (by omega)
  refine ⟨hb, tokT_of hb ?_ rfl⟩
  rw [tokZ, hpk, if_neg (by decide), if_neg (by decide), if_neg (by decide), if_neg (by decide), if_neg (by decide), if_neg (fun hh => absurd hh.1 (by decide)), if_neg (fun hh => absurd hh.1 (by decide)), if_pos rfl, hn]
  rfl
theorem end_tok (zs : List Int) (p : Nat) (h : zs.drop p = []) : blkP zs p = p ∧ tokT zs p = ⟨0, 0, 0, [], p⟩ := by
  have hpk := peek_off h
  have hb := tok_no hpk (by decide) (by decide)
  refine ⟨hb, tokT_of hb ?_ rfl⟩
  rw [tokZ, hpk, if_pos (by decide)]
end

section
open Go.RowKit
set_option linter.unusedVariables false
set_option maxRecDepth 100000
theorem tok_at (zs : List Int) (p : Nat) : tokT zs p = shT p (tokT (zs.drop p) 0) := tokT_shift zs p 0
theorem peek_c0 (c : Int) (Y : List Int) : peekZ (c :: Y) ((0 : Nat) : Int) = c := by
  unfold peekZ
  rw [if_pos ⟨by decide, by rw [List.length_cons]; omega⟩]
  rfl
theorem peek_c1 (c d : Int) (Y : List Int) : peekZ (c :: d :: Y) ((0 + 1 : Nat) : Int) = d := by
  unfold peekZ
  rw [if_pos ⟨by decide, by rw [List.length_cons, List.length_cons]; omega⟩]
  rfl
theorem blk_at (zs : List Int) (p : Nat) : blkP zs p = p + blkP (zs.drop p) 0 := blkP_shift zs p 0
theorem blk_open (Y : List Int) : blkP (91 :: Y) 0 = 0 := by kernel_rfl
theorem blk_close (Y : List Int) : blkP (93 :: Y) 0 = 0 := by kernel_rfl
theorem blk_left (Y : List Int) : blkP (60 :: Y) 0 = 0 := by kernel_rfl
theorem blk_right (Y : List Int) : blkP (62 :: Y) 0 = 0 := by kernel_rfl
theorem tokT_nb (zs : List Int) (t : Tk) (hb : blkP zs 0 = 0) (ht : tokZ zs 0 = t) (he : t.e = 0) : tokT zs 0 = t := by
  unfold tokT
  rw [hb, ht, if_pos he]
theorem tok_open (Y : List Int) : tokT (91 :: Y) 0 = ⟨0, 5, 0, [], 1⟩ := tokT_nb _ _ (blk_open Y) (by
  unfold tokZ
  rw [peek_c0, if_neg (by decide), if_neg (by decide), if_neg (by decide), if_pos rfl]) rfl
theorem tok_close (Y : List Int) : tokT (93 :: Y) 0 = ⟨0, 6, 0, [], 1⟩ := tokT_nb _ _ (blk_close Y) (by
  unfold tokZ
  rw [peek_c0, if_neg (by decide), if_neg (by decide), if_neg (by decide), if_neg (by decide), if_pos rfl]) rfl
theorem tok_left (Y : List Int) : tokT (60 :: 60 :: Y) 0 = ⟨0, 7, 0, [], 2⟩ := tokT_nb _ _ (blk_left _) (by
  unfold tokZ
  rw [peek_c0, peek_c1, if_neg (by decide), if_neg (by decide), if_neg (by decide), if_neg (by decide), if_neg (by decide), if_pos ⟨rfl, rfl⟩]) rfl
theorem tok_right (Y : List Int) : tokT (62 :: 62 :: Y) 0 = ⟨0, 8, 0, [], 2⟩ := tokT_nb _ _ (blk_right _) (by
  unfold tokZ
  rw [peek_c0, peek_c1, if_neg (by decide), if_neg (by decide), if_neg (by decide), if_neg (by decide), if_neg (by decide), if_neg (by decide), if_pos ⟨rfl, rfl⟩]) rfl
theorem tokT_blk (zs : List Int) (a b : Nat) (h : blkP zs a = blkP zs b) : tokT zs a = tokT zs b := by unfold tokT; rw [h]
theorem drop_more {zs a b : List Int} {p : Nat} (h : zs.drop p = a ++ b) (n : Nat) (hn : a.length = n) : zs.drop (p + n) = b := by
  rw [← List.drop_drop, h, ← hn, List.drop_left]
end

section
open Go.RowKit
set_option linter.unusedVariables false
set_option maxRecDepth 100000
theorem at_of {zs l : List Int} {p : Nat} (h : zs.drop p = l) : tokT zs p = shT p (tokT l 0) ∧ blkP zs p = p + blkP l 0 := ⟨by rw [tok_at, h], by rw [blk_at, h]⟩
theorem drop_n {zs a b : List Int} {p : Nat} (h : zs.drop p = a ++ b) : zs.drop (p + a.length) = b := drop_more h _ rfl
/-- A white sign. -/
theorem at_wh {zs rest : List Int} {p : Nat} {c : Int} (h : zs.drop p = c :: rest) (hc : whB c = true) : blkP zs p = blkP zs (p + 1) ∧ tokT zs p = tokT zs (p + 1) ∧ zs.drop (p + 1) = rest := by
  have hb := (blkP_wh zs p (by rw [peek_on h]; exact hc)).2
  exact ⟨hb, tokT_blk zs _ _ hb, drop_one h⟩
theorem row_stopR {rest : List Int} (K : Int → Bool) (hr : rest = [] ∨ ∃ r rs, rest = r :: rs ∧ K r = false) : rowZ K rest = 0 := by
  rcases hr with rfl | ⟨r, rs, rfl, hb⟩
  · rfl
  · rw [rowZ, if_neg (by rw [hb]; decide)]
theorem at_word {zs w rest : List Int} {p : Nat} {c : Int} (h : zs.drop p = (c :: w) ++ rest) (hw : ∀ z ∈ c :: w, regB z = true) (h0 : nmB c = false) (hl : (c :: w).length ≤ 127) (hr : rest = [] ∨ ∃ r rs, rest = r :: rs ∧ regB r = false) :
    blkP zs p = p ∧ tokT zs p = ⟨0, 9, 0, c :: w, p + (c :: w).length⟩ ∧ zs.drop (p + (c :: w).length) = rest := by
  have hc := hw c (by simp)
  have hpk := peek_on (l := w ++ rest) h
  have hreg := hc
  unfold regB delB at hreg
  simp only [Bool.and_eq_true, Bool.not_eq_true', decide_eq_true_eq, Bool.or_eq_false_iff, beq_eq_false_iff_ne] at hreg
  have hb := tok_no hpk (by simpa using hreg.2.2) (by omega)
  have hrow : rowZ regB (zs.drop p) = (c :: w).length := by rw [h, row_app regB _ _ hw, row_stopR regB hr]; rfl
  refine ⟨hb, tokT_of hb ?_ rfl, drop_n h⟩
  rw [tokZ, hpk, if_neg (by omega), if_neg (by rw [h0]; decide), if_pos hc, hrow, if_neg (by omega), h, List.take_left]
theorem at_left {zs rest : List Int} {p : Nat} (h : zs.drop p = 60 :: 60 :: rest) : blkP zs p = p ∧ tokT zs p = ⟨0, 7, 0, [], p + 2⟩ ∧ zs.drop (p + 2) = rest := by
  have h2 := at_of h
  rw [blk_left, tok_left] at h2
  exact ⟨h2.2, h2.1, drop_more (a := [60, 60]) h 2 rfl⟩
theorem at_right {zs rest : List Int} {p : Nat} (h : zs.drop p = 62 :: 62 :: rest) : blkP zs p = p ∧ tokT zs p = ⟨0, 8, 0, [], p + 2⟩ ∧ zs.drop (p + 2) = rest := by
  have h2 := at_of h
  rw [blk_right, tok_right] at h2
  exact ⟨h2.2, h2.1, drop_more (a := [62, 62]) h 2 rfl⟩
theorem at_open {zs rest : List Int} {p : Nat} (h : zs.drop p = 91 :: rest) : blkP zs p = p ∧ tokT zs p = ⟨0, 5, 0, [], p + 1⟩ ∧ zs.drop (p + 1) = rest := by
  have h2 := at_of h
  rw [blk_open, tok_open] at h2
  exact ⟨h2.2, h2.1, drop_more (a := [91]) h 1 rfl⟩
theorem at_close {zs rest : List Int} {p : Nat} (h : zs.drop p = 93 :: rest) : blkP zs p = p ∧ tokT zs p = ⟨0, 6, 0, [], p + 1⟩ ∧ zs.drop (p + 1) = rest := by
  have h2 := at_of h
  rw [blk_close, tok_close] at h2
  exact ⟨h2.2, h2.1, drop_more (a := [93]) h 1 rfl⟩
theorem at_name {zs bs rest : List Int} {p : Nat} (hr : rest = [] ∨ ∃ r rs, rest = r :: rs ∧ regB r = false) (h : zs.drop p = 47 :: (nmS bs ++ rest)) (hz : ∀ z ∈ bs, 0 < z ∧ z < 256) (hl : bs.length ≤ 127) (hf : bs.length ≤ zs.length) :
    blkP zs p = p ∧ tokT zs p = ⟨0, 4, 0, bs, p + 1 + (nmS bs).length⟩ ∧ zs.drop (p + 1 + (nmS bs).length) = rest := by
  have h2 := name_tok zs rest bs p hr h hz hl hf
  exact ⟨h2.1, h2.2, drop_more (drop_one h) _ rfl⟩
end

section
open Go.RowKit
set_option linter.unusedVariables false
set_option maxRecDepth 100000
def gpL (g : Nat) : List Int := if g = 0 then [32] else if g = 1 then [10] else if g = 2 then [0] else if g = 3 then [37, 99, 13] else if g = 4 then [32, 37, 37, 10, 32] else if g = 5 then [9, 12] else if g = 6 then [13, 10] else [32, 32]
def wdL (j : Nat) : List Int := if j = 0 then [47, 65] else if j = 1 then [40, 120, 41] else if j = 2 then [60, 52, 49, 62] else if j = 3 then [91] else if j = 4 then [93] else if j = 5 then [60, 60] else if j = 6 then [62, 62] else if j = 7 then [49, 50] else if j = 8 then [45, 46, 53] else if j = 9 then [111, 98, 106] else [116, 114, 117, 101]
def tkJ (j : Nat) : Tk := if j = 0 then ⟨0, 4, 0, [65], 2⟩ else if j = 1 then ⟨0, 3, 0, [120], 3⟩ else if j = 2 then ⟨0, 3, 0, [65], 4⟩ else if j = 3 then ⟨0, 5, 0, [], 1⟩ else if j = 4 then ⟨0, 6, 0, [], 1⟩ else if j = 5 then ⟨0, 7, 0, [], 2⟩ else if j = 6 then ⟨0, 8, 0, [], 2⟩ else if j = 7 then ⟨0, 1, 12, [], 2⟩ else if j = 8 then ⟨0, 2, -50000, [], 3⟩ else if j = 9 then ⟨0, 9, 0, [111, 98, 106], 3⟩ else ⟨0, 9, 0, [116, 114, 117, 101], 4⟩
def Rst (rest : List Int) : Prop := rest = [] ∨ ∃ c cs, rest = c :: cs ∧ regB c = false
theorem tok_x (Y : List Int) : blkP (40 :: 120 :: 41 :: Y) 0 = 0 ∧ tokT (40 :: 120 :: 41 :: Y) 0 = ⟨0, 3, 0, [120], 3⟩ := by
  obtain ⟨zs, hz⟩ : ∃ zs, (40 :: 120 :: 41 :: Y : List Int) = zs := ⟨_, rfl⟩
  have d0 : zs.drop 0 = 40 :: 120 :: 41 :: Y := by rw [← hz]; rfl
  have d1 := drop_one d0
  have d2 := drop_one d1
  have p0 := peek_on d0
  have p1 := peek_on d1
  have p2 := peek_on d2
  have hl : zs.length = Y.length + 3 := by rw [← hz]; rfl
  have hb : blkP zs 0 = 0 := tok_no p0 (by decide) (by decide)
  rw [hz]
  refine ⟨hb, tokT_of hb ?_ rfl⟩
  have q1 : pcZ zs (0 + 1) = (120, 2, 0) := by
    unfold pcZ
    rw [p1, if_neg (by decide), if_neg (by decide), if_neg (by decide), if_neg (by decide)]
  have q2 : pcZ zs 2 = (41, 3, -1) := by
    unfold pcZ
    rw [show peekZ zs ((2 : Nat) : Int) = 41 from p2, if_neg (by decide), if_neg (by decide), if_neg (by decide), if_pos rfl]
  have ht : textF zs (zs.length + 1) (0 + 1) 1 [] = (0, [120], 3) := by
    rw [hl, textF, if_neg (by omega), q1]
    dsimp only
    rw [if_neg (by decide), if_neg (by decide), if_neg (by decide), textF, if_neg (by omega), q2]
    rfl
  rw [tokZ, p0, if_neg (by decide), if_neg (by decide), if_neg (by decide), if_neg (by decide), if_neg (by decide), if_neg (fun hh => absurd hh.1 (by decide)), if_neg (fun hh => absurd hh.1 (by decide)), if_neg (by decide), if_pos rfl, ht]
theorem tok_h (Y : List Int) : blkP (60 :: 52 :: 49 :: 62 :: Y) 0 = 0 ∧ tokT (60 :: 52 :: 49 :: 62 :: Y) 0 = ⟨0, 3, 0, [65], 4⟩ := by
  obtain ⟨zs, hz⟩ : ∃ zs, (60 :: 52 :: 49 :: 62 :: Y : List Int) = zs := ⟨_, rfl⟩
  have d0 : zs.drop 0 = 60 :: 52 :: 49 :: 62 :: Y := by rw [← hz]; rfl
  have d1 := drop_one d0
  have p0 := peek_on d0
  have p1 := peek_on d1
  have hb : blkP zs 0 = 0 := tok_no p0 (by decide) (by decide)
  rw [hz]
  refine ⟨hb, tokT_of hb ?_ rfl⟩
  have hh : hexZ zs (0 + 1) = (0, [65], 4) := by
    unfold hexZ
    rw [d1]
    kernel_rfl
  rw [tokZ, p0, if_neg (by decide), if_neg (by decide), if_neg (by decide), if_neg (by decide), if_neg (by decide), if_neg (fun hh => absurd hh.2 (by rw [p1]; decide)), if_neg (fun hh => absurd hh.1 (by decide)), if_neg (by decide), if_neg (by decide), if_pos rfl, hh]
theorem tok_n (W Y : List Int) (c : Int) (cs : List Int) (t : Tk) (hW : W = c :: cs) (hn : nmB c = true) (hc : ∀ z ∈ W, regB z = true) (hY : Rst Y) (h37 : c ≠ 37) (hw : whB c = false) (h0 : ¬ c < 0)
    (ht : (⟨(parseS W).2.2, if (parseS W).2.1 = true then 1 else 2, (parseS W).1, [], 0 + W.length⟩ : Tk) = t) (he : t.e = 0) : blkP (W ++ Y) 0 = 0 ∧ tokT (W ++ Y) 0 = t := by
  obtain ⟨zs, hz⟩ : ∃ zs, W ++ Y = zs := ⟨_, rfl⟩
  have d0 : zs.drop 0 = c :: (cs ++ Y) := by rw [← hz, hW]; rfl
  have p0 := peek_on d0
  have hb : blkP zs 0 = 0 := tok_no p0 hw h37
  have hr : rowZ regB (zs.drop 0) = W.length := by rw [List.drop_zero, ← hz, row_app regB _ _ hc, row_stopR regB hY]; rfl
  rw [hz]
  refine ⟨hb, tokT_of hb ?_ he⟩
  rw [tokZ, p0, if_neg h0, if_pos hn, hr, List.drop_zero, ← hz, List.take_left]
  exact ht
theorem wd_tok (j : Nat) (hj : j < 11) (Y : List Int) (hY : Rst Y) : blkP (wdL j ++ Y) 0 = 0 ∧ tokT (wdL j ++ Y) 0 = tkJ j := by
  have e : ∀ W : List Int, (W ++ Y).drop 0 = W ++ Y := fun W => List.drop_zero
  have hj : j = 0 ∨ j = 1 ∨ j = 2 ∨ j = 3 ∨ j = 4 ∨ j = 5 ∨ j = 6 ∨ j = 7 ∨ j = 8 ∨ j = 9 ∨ j = 10 := by omega
  rcases hj with rfl | rfl | rfl | rfl | rfl | rfl | rfl | rfl | rfl | rfl | rfl
  · have := at_name (zs := [47, 65] ++ Y) (bs := [65]) (p := 0) hY rfl (by decide) (by decide) (by simp)
    exact ⟨this.1, this.2.1⟩
  · exact tok_x Y
  · exact tok_h Y
  · have := at_open (zs := [91] ++ Y) (p := 0) (rest := Y) rfl
    exact ⟨this.1, this.2.1⟩
  · have := at_close (zs := [93] ++ Y) (p := 0) (rest := Y) rfl
    exact ⟨this.1, this.2.1⟩
  · have := at_left (zs := [60, 60] ++ Y) (p := 0) (rest := Y) rfl
    exact ⟨this.1, this.2.1⟩
  · have := at_right (zs := [62, 62] ++ Y) (p := 0) (rest := Y) rfl
    exact ⟨this.1, this.2.1⟩
  · exact tok_n [49, 50] Y 49 [50] _ rfl (by decide) (by decide) hY (by decide) (by decide) (by decide) (by kernel_rfl) rfl
  · exact tok_n [45, 46, 53] Y 45 [46, 53] _ rfl (by decide) (by decide) hY (by decide) (by decide) (by decide) (by kernel_rfl) rfl
  · have := at_word (zs := [111, 98, 106] ++ Y) (c := 111) (w := [98, 106]) (p := 0) (rest := Y) rfl (by decide) (by decide) (by decide) hY
    exact ⟨this.1, this.2.1⟩
  · have := at_word (zs := [116, 114, 117, 101] ++ Y) (c := 116) (w := [114, 117, 101]) (p := 0) (rest := Y) rfl (by decide) (by decide) (by decide) hY
    exact ⟨this.1, this.2.1⟩
theorem gp_blk (g : Nat) (Y : List Int) : blkZ false (gpL g ++ Y) = (gpL g).length + blkZ false Y := by
  unfold gpL
  split
  · show blkZ false (32 :: Y) = 1 + _
    rw [blkZ, if_pos (by decide)]; omega
  · split
    · show blkZ false (10 :: Y) = 1 + _
      rw [blkZ, if_pos (by decide)]; omega
    · split
      · show blkZ false (0 :: Y) = 1 + _
        rw [blkZ, if_pos (by decide)]; omega
      · split
        · show blkZ false (37 :: 99 :: 13 :: Y) = 3 + _
          rw [blkZ, if_neg (by decide), if_pos rfl, blkZ, if_neg (by decide), blkZ, if_pos (by decide)]; omega
        · split
          · show blkZ false (32 :: 37 :: 37 :: 10 :: 32 :: Y) = 5 + _
            rw [blkZ, if_pos (by decide), blkZ, if_neg (by decide), if_pos rfl, blkZ, if_neg (by decide), blkZ, if_pos (by decide), blkZ, if_pos (by decide)]; omega
          · split
            · show blkZ false (9 :: 12 :: Y) = 2 + _
              rw [blkZ, if_pos (by decide), blkZ, if_pos (by decide)]; omega
            · split
              · show blkZ false (13 :: 10 :: Y) = 2 + _
                rw [blkZ, if_pos (by decide), blkZ, if_pos (by decide)]; omega
              · show blkZ false (32 :: 32 :: Y) = 2 + _
                rw [blkZ, if_pos (by decide), blkZ, if_pos (by decide)]; omega
theorem gp_rst (g : Nat) (Y : List Int) : Rst (gpL g ++ Y) := by
  unfold gpL
  repeat' split
  all_goals exact .inr ⟨_, _, rfl, by decide⟩
/-- The word behind a gap. -/
theorem wd_at {zs Y : List Int} {p g j : Nat} (hj : j < 11) (h : zs.drop p = gpL g ++ (wdL j ++ Y)) (hY : Rst Y) :
    blkP zs p = p + (gpL g).length ∧ tokT zs p = shT (p + (gpL g).length) (tkJ j) ∧ zs.drop (p + (gpL g).length + (wdL j).length) = Y ∧ zs.drop (p + (gpL g).length) = wdL j ++ Y := by
  have h2 := drop_n h
  obtain ⟨b, t⟩ := wd_tok j hj Y hY
  have hb : blkP zs p = p + (gpL g).length := by
    unfold blkP at b ⊢
    rw [List.drop_zero] at b
    rw [h, gp_blk]
    omega
  have hb2 : blkP zs (p + (gpL g).length) = p + (gpL g).length := by rw [blk_at, h2, b]; rfl
  refine ⟨hb, ?_, drop_n h2, h2⟩
  rw [tokT_blk zs p (p + (gpL g).length) (hb.trans hb2.symm), tok_at, h2, t]
theorem tkJ_q (j : Nat) : (tkJ j).q = (wdL j).length ∧ (tkJ j).e = 0 := by
  unfold tkJ wdL
  repeat' split
  all_goals exact ⟨rfl, rfl⟩
/-- The words in a row. -/
def bkL : List (Nat × Nat) → List Int
  | [] => []
  | x :: xs => gpL x.1 ++ (wdL x.2 ++ bkL xs)
theorem bkL_snoc : ∀ (xs : List (Nat × Nat)) (x : Nat × Nat), bkL (xs ++ [x]) = bkL xs ++ (gpL x.1 ++ wdL x.2)
  | [], x => by simp [bkL]
  | y :: xs, x => by rw [List.cons_append, bkL, bkL, bkL_snoc xs x]; simp
theorem bkL_rst (xs : List (Nat × Nat)) : Rst (bkL xs ++ [10]) := by
  match xs with
  | [] => exact .inr ⟨10, [], rfl, by decide⟩
  | x :: xs =>
    rw [bkL, List.append_assoc]
    exact gp_rst _ _
theorem bkL_app : ∀ (xs ys : List (Nat × Nat)), bkL (xs ++ ys) = bkL xs ++ bkL ys
  | [], ys => rfl
  | x :: xs, ys => by rw [List.cons_append, bkL, bkL, bkL_app xs ys]; simp
/-- The token with a number. -/
theorem bk_at (xs ys : List (Nat × Nat)) (x : Nat × Nat) (hx : x.2 < 11) (zs : List Int) (hz : zs = bkL (xs ++ x :: ys) ++ [10]) :
    blkP zs (bkL xs).length = (bkL xs).length + (gpL x.1).length ∧ tokT zs (bkL xs).length = shT ((bkL xs).length + (gpL x.1).length) (tkJ x.2) ∧
    (bkL xs).length + (gpL x.1).length + (wdL x.2).length = (bkL (xs ++ [x])).length ∧ zs.drop ((bkL xs).length + (gpL x.1).length) = wdL x.2 ++ (bkL ys ++ [10]) := by
  have h : zs.drop (bkL xs).length = gpL x.1 ++ (wdL x.2 ++ (bkL ys ++ [10])) := by
    rw [hz, bkL_app, List.append_assoc, List.drop_left, bkL]; simp
  obtain ⟨a, b, c, d⟩ := wd_at hx h (bkL_rst ys)
  exact ⟨a, b, by rw [bkL_snoc]; simp; omega, d⟩
theorem bk_end (xs : List (Nat × Nat)) (zs : List Int) (hz : zs = bkL xs ++ [10]) : blkP zs (bkL xs).length = (bkL xs).length + 1 ∧ tokT zs (bkL xs).length = ⟨0, 0, 0, [], (bkL xs).length + 1⟩ := by
  have h : zs.drop (bkL xs).length = [10] := by rw [hz, List.drop_left]
  have t := at_wh h (by decide)
  obtain ⟨a, b⟩ := end_tok zs _ t.2.2
  exact ⟨t.1.trans a, t.2.1.trans b⟩
end
end Go.Proofs.Ytpomkhcobpihmaa
