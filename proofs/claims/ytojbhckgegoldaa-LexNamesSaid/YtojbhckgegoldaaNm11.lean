/- Chapter 11, pure: a name and a string, as the document prints them, are read as they were. -/
import Derived.Test.YtojbhckgegoldaaTx11
import Derived.Test.YtojbhckgegoldaaNu11
namespace Go.Proofs.Ytojbhckgegoldaa
open Go.RowKit
set_option linter.unusedVariables false
set_option maxRecDepth 100000

/-- A byte that a name holds as it is. -/
def plB (c : Int) : Bool := decide (33 ≤ c) && decide (c ≤ 126) && regB c && !(c == 35)
/-- The bytes of a name, written. -/
def nmS : List Int → List Int
  | [] => []
  | c :: cs => (if plB c = true then [c] else [35, hxD (c / 16), hxD (c % 16)]) ++ nmS cs
/-- A byte that a string holds as it is. -/
def txB (c : Int) : Bool := decide (32 ≤ c) && decide (c ≤ 126) && !(c == 40) && !(c == 41) && !(c == 92)
theorem peek_on {zs l : List Int} {q : Nat} {c : Int} (h : zs.drop q = c :: l) : peekZ zs (q : Int) = c := by
  have := peek_shift zs q 0
  rw [Nat.add_zero, h, peek_0] at this
  exact this
theorem drop_one {zs l : List Int} {q : Nat} {c : Int} (h : zs.drop q = c :: l) : zs.drop (q + 1) = l := drop_on (l := [c]) h
theorem peek_off {zs : List Int} {q : Nat} (h : zs.drop q = []) : peekZ zs (q : Int) = -1 := peekZ_nat zs q (List.drop_eq_nil_iff.1 h)
theorem name_back (zs rest : List Int) (hr : rest = [] ∨ ∃ r rs, rest = r :: rs ∧ regB r = false) : ∀ (bs : List Int) (f p : Nat) (o : List Int), zs.drop p = nmS bs ++ rest → (∀ z ∈ bs, 0 < z ∧ z < 256) → o.length + bs.length ≤ 127 → bs.length < f →
    nameF zs f p o = (0, o ++ bs, p + (nmS bs).length)
  | [], 0, p, o, h, _, _, hf => absurd hf (Nat.lt_irrefl _)
  | [], f + 1, p, o, h, _, _, _ => by
    have e : regB (peekZ zs (p : Int)) = false := by
      rcases hr with rfl | ⟨r, rs, rfl, hb⟩
      · rw [peek_off h]; decide
      · rw [peek_on h]; exact hb
    rw [nameF, if_pos e, List.append_nil]
    rfl
  | c :: cs, 0, p, o, h, _, _, hf => absurd hf (Nat.not_lt_zero _)
  | c :: cs, f + 1, p, o, h, hz, ho, hf => by
    have hc := hz c (List.mem_cons_self ..)
    have hcs : ∀ z ∈ cs, 0 < z ∧ z < 256 := fun z hm => hz z (List.mem_cons_of_mem _ hm)
    rw [List.length_cons] at ho hf
    by_cases hp : plB c = true
    · have h1 : zs.drop p = c :: (nmS cs ++ rest) := by rw [h, nmS, if_pos hp]; rfl
      have hpk := peek_on h1
      have hreg : regB c = true := by
        have := hp
        unfold plB at this
        simp at this
        exact this.1.2
      have h35 : ¬ c = 35 := by
        have := hp
        unfold plB at this
        simp at this
        exact this.2
      rw [nameF, hpk, if_neg (by rw [hreg]; decide), if_neg h35, if_neg (by omega), name_back zs rest hr cs f (p + 1) (o ++ [c]) (drop_one h1) hcs (by rw [List.length_append, List.length_singleton]; omega) (by omega)]
      rw [nmS, if_pos hp, List.append_assoc, List.length_append]
      show (0, o ++ ([c] ++ cs), p + 1 + (nmS cs).length) = (0, o ++ c :: cs, p + ([c].length + (nmS cs).length))
      rw [List.length_singleton, Nat.add_assoc]
      rfl
    · have h1 : zs.drop p = 35 :: hxD (c / 16) :: hxD (c % 16) :: (nmS cs ++ rest) := by rw [h, nmS, if_neg hp]; rfl
      have h2 := drop_one h1
      have h3 := drop_one h2
      have h4 := drop_one h3
      have d1 := hxD_ok (c / 16) (by omega) (by omega)
      have d2 := hxD_ok (c % 16) (by omega) (by omega)
      rw [nameF, peek_on h1, peek_on h2, show peekZ zs ((p + 2 : Nat) : Int) = hxD (c % 16) from peek_on h3, d1.1, d2.1, if_neg (by decide), if_pos rfl, if_neg (by omega), if_neg (by omega), show c / 16 * 16 + c % 16 = c by omega,
        name_back zs rest hr cs f (p + 3) (o ++ [c]) h4 hcs (by rw [List.length_append, List.length_singleton]; omega) (by omega)]
      rw [nmS, if_neg hp, List.append_assoc, List.length_append]
      show (0, o ++ ([c] ++ cs), p + 3 + (nmS cs).length) = (0, o ++ c :: cs, p + (3 + (nmS cs).length))
      rw [Nat.add_assoc]
      rfl
theorem text_back (zs rest : List Int) : ∀ (bs : List Int) (f p : Nat) (o : List Int), zs.drop p = bs ++ 41 :: rest → (∀ z ∈ bs, txB z = true) → o.length + bs.length ≤ 32767 → bs.length < f →
    textF zs f p 1 o = (0, o ++ bs, p + bs.length + 1)
  | [], 0, p, o, h, _, _, hf => absurd hf (Nat.lt_irrefl _)
  | [], f + 1, p, o, h, _, _, _ => by
    have hpk : peekZ zs (p : Int) = 41 := peek_on h
    have hp : pcZ zs p = (41, p + 1, -1) := by unfold pcZ; rw [hpk, if_neg (by decide), if_neg (by decide), if_neg (by decide), if_pos rfl]
    have hlt : p < zs.length := peekZ_lt zs p (by omega)
    rw [textF, if_neg (by omega), hp, if_pos (show (1 : Int) + -1 = 0 by decide), List.append_nil]
    rfl
  | c :: cs, 0, p, o, h, _, _, hf => absurd hf (Nat.not_lt_zero _)
  | c :: cs, f + 1, p, o, h, hz, ho, hf => by
    have hc := hz c (List.mem_cons_self ..)
    rw [List.length_cons] at ho hf
    have hpk : peekZ zs (p : Int) = c := peek_on h
    have hb : 32 ≤ c ∧ c ≤ 126 ∧ c ≠ 40 ∧ c ≠ 41 ∧ c ≠ 92 := by
      unfold txB at hc
      simp at hc
      omega
    have hp : pcZ zs p = (c, p + 1, 0) := by unfold pcZ; rw [hpk, if_neg (by omega), if_neg (by omega), if_neg (by omega), if_neg (by omega)]
    have hlt : p < zs.length := peekZ_lt zs p (by omega)
    rw [textF, if_neg (by omega), hp]
    show (if (1 : Int) + 0 = 0 then _ else if c < 0 then _ else if 32767 ≤ o.length then _ else textF zs f (p + 1) (1 + 0) (o ++ [c])) = _
    rw [if_neg (by decide), if_neg (by omega), if_neg (by omega), Int.add_zero, text_back zs rest cs f (p + 1) (o ++ [c]) (drop_one h) (fun z hm => hz z (List.mem_cons_of_mem _ hm)) (by rw [List.length_append, List.length_singleton]; omega) (by omega), List.append_assoc, List.length_cons]
    show (0, o ++ ([c] ++ cs), p + 1 + cs.length + 1) = (0, o ++ c :: cs, p + (cs.length + 1) + 1)
    rw [show p + 1 + cs.length + 1 = p + (cs.length + 1) + 1 by omega]
    rfl
/-- The bytes of a string, written. -/
def txS (s : List Int) : List Int := if (s.all txB) = true then 40 :: (s ++ [41]) else 60 :: (hxB s ++ [62])
theorem tok_no {zs : List Int} {p : Nat} {c : Int} (h : peekZ zs (p : Int) = c) (hw : whB c = false) (h37 : c ≠ 37) : blkP zs p = p := blkP_no zs p (by rw [h]; exact hw) (by rw [h]; exact h37)
theorem tokT_of {zs : List Int} {p : Nat} (hb : blkP zs p = p) {t : Tk} (ht : tokZ zs p = t) (h0 : t.e = 0) : tokT zs p = t := by
  unfold tokT
  rw [hb, ht, if_pos h0]
theorem name_tok (zs rest bs : List Int) (p : Nat) (hr : rest = [] ∨ ∃ r rs, rest = r :: rs ∧ regB r = false) (h : zs.drop p = 47 :: (nmS bs ++ rest)) (hz : ∀ z ∈ bs, 0 < z ∧ z < 256) (hl : bs.length ≤ 127) (hf : bs.length ≤ zs.length) :
    blkP zs p = p ∧ tokT zs p = ⟨0, 4, 0, bs, p + 1 + (nmS bs).length⟩ := by
  have hpk := peek_on h
  have hb := tok_no hpk (by decide) (by decide)
  have hn := name_back zs rest hr bs (zs.length + 1) (p + 1) [] (drop_one h) hz (by simpa using hl) (by omega)
  refine ⟨hb, tokT_of hb ?_ rfl⟩
  rw [tokZ, hpk, if_neg (by decide), if_neg (by decide), if_neg (by decide), if_neg (by decide), if_neg (by decide), if_neg (fun hh => absurd hh.1 (by decide)), if_neg (fun hh => absurd hh.1 (by decide)), if_pos rfl, hn]
  rfl
theorem end_tok (zs : List Int) (p : Nat) (h : zs.drop p = []) : blkP zs p = p ∧ tokT zs p = ⟨0, 0, 0, [], p⟩ := by
  have hpk := peek_off h
  have hb := tok_no hpk (by decide) (by decide)
  refine ⟨hb, tokT_of hb ?_ rfl⟩
  rw [tokZ, hpk, if_pos (by decide)]
theorem hxB_pr (s : List Int) (hz : ∀ z ∈ s, 0 ≤ z ∧ z < 256) : ∀ z ∈ hxB s, prB z = true := fun z hm => by
  have := hxB_rng s hz z hm
  unfold prB
  simp
  exact .inl this.2.2.2.1
theorem text_tok (zs s : List Int) (p : Nat) (h : zs.drop p = txS s) (hz : ∀ z ∈ s, 0 ≤ z ∧ z < 256) (hl : s.length ≤ 32767) :
    blkP zs p = p ∧ tokT zs p = ⟨0, 3, 0, s, p + (txS s).length⟩ := by
  by_cases ha : s.all txB = true
  · have e : txS s = 40 :: (s ++ [41]) := by unfold txS; rw [if_pos ha]
    rw [e] at h ⊢
    have hpk := peek_on h
    have hb := tok_no hpk (by decide) (by decide)
    have hlen : s.length + 2 ≤ zs.length := by
      have := congrArg List.length h
      rw [List.length_drop] at this
      simp at this
      omega
    have hn := text_back zs [] s (zs.length + 1) (p + 1) [] (drop_one h) (fun z hm => List.all_eq_true.1 ha z hm) (by simpa using hl) (by omega)
    refine ⟨hb, tokT_of hb ?_ rfl⟩
    rw [tokZ, hpk, if_neg (by decide), if_neg (by decide), if_neg (by decide), if_neg (by decide), if_neg (by decide), if_neg (fun hh => absurd hh.1 (by decide)), if_neg (fun hh => absurd hh.1 (by decide)), if_neg (by decide), if_pos rfl, hn]
    simp
    omega
  · have e : txS s = 60 :: (hxB s ++ [62]) := by unfold txS; rw [if_neg ha]
    rw [e] at h ⊢
    have hpk := peek_on h
    have hb := tok_no hpk (by decide) (by decide)
    have h1 := drop_one h
    have h60 : ¬ peekZ zs ((p + 1 : Nat) : Int) = 60 := by
      rcases s with _ | ⟨c, cs⟩
      · rw [peek_on (l := []) h1]; decide
      · have hc := hz c (List.mem_cons_self ..)
        have d := hxD_ok (c / 16) (by omega) (by omega)
        rw [peek_on (c := hxD (c / 16)) (l := hxD (c % 16) :: (hxB cs ++ [62])) h1]
        intro e60
        rw [e60] at d
        exact absurd d.1 (by rw [show dgZ 60 = -1 by decide]; omega)
    have hu := unhx_hexS 32767 s [] hz
    rw [List.append_nil, if_neg (by omega)] at hu
    have hrw : rowZ prB (hxB s ++ [62]) = (hxB s).length := by
      rw [row_app prB (hxB s) [62] (hxB_pr s hz)]
      rfl
    refine ⟨hb, tokT_of hb ?_ rfl⟩
    rw [tokZ, hpk, if_neg (by decide), if_neg (by decide), if_neg (by decide), if_neg (by decide), if_neg (by decide), if_neg (fun hh => h60 hh.2), if_neg (fun hh => absurd hh.1 (by decide)), if_neg (by decide), if_neg (by decide), if_pos rfl]
    unfold hexZ
    rw [h1, show hxB s ++ [62] = hexS s from rfl, hu, show hexS s = hxB s ++ [62] from rfl, hrw]
    simp
    omega
end Go.Proofs.Ytojbhckgegoldaa
