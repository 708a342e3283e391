/- Chapter 6, pure: white signs, digits, what signs stand for, what bytes are written as. -/
import Derived.Test.YtojbhckgegoldaaBytes
namespace Go.Proofs.Ytojbhckgegoldaa
open Go.RowKit
set_option linter.unusedVariables false

/-- Is it a white sign? -/
def whB (c : Int) : Bool := c == 0 || c == 9 || c == 10 || c == 12 || c == 13 || c == 32
/-- What a sign counts as a digit of base 16; -1: it is none. -/
def dgZ (c : Int) : Int := if 48 ≤ c ∧ c ≤ 57 then c - 48 else if 97 ≤ c ∧ c ≤ 102 then c - 97 + 10 else if 65 ≤ c ∧ c ≤ 70 then c - 65 + 10 else -1
theorem dgZ_bd (c : Int) : -1 ≤ dgZ c ∧ dgZ c ≤ 15 := by unfold dgZ; split <;> (try split) <;> (try split) <;> omega
/-- The first sign that is not white (-1: there is none), and the place behind it. -/
def sgA : List Int → Nat → Int × Nat
  | [], p => (-1, p)
  | c :: cs, p => if whB c = true then sgA cs (p + 1) else (c, p + 1)
theorem sgA_bd : ∀ (l : List Int) (p : Nat), (∀ z ∈ l, 0 ≤ z ∧ z < 256) → ((sgA l p).1 = -1 ∧ (sgA l p).2 = p + l.length) ∨ (0 ≤ (sgA l p).1 ∧ (sgA l p).1 < 256 ∧ p < (sgA l p).2 ∧ (sgA l p).2 ≤ p + l.length ∧ whB (sgA l p).1 = false)
  | [], p, _ => .inl ⟨rfl, rfl⟩
  | c :: cs, p, h => by
    rw [sgA]
    split
    · rcases sgA_bd cs (p + 1) (fun z hz => h z (List.mem_cons_of_mem _ hz)) with ⟨h1, h2⟩ | ⟨h1, h2, h3, h4, h5⟩
      · exact .inl ⟨h1, by rw [h2, List.length_cons]; omega⟩
      · exact .inr ⟨h1, h2, by omega, by rw [List.length_cons]; omega, h5⟩
    · rename_i hw
      have hc := h c (List.mem_cons_self ..)
      exact .inr ⟨hc.1, hc.2, by simp, by simp, by simpa using hw⟩
/-- What digits by pairs stand for: h is the digit that was begun with (-1: none), o what came. -/
def unhxR (M : Nat) : List Int → Int → List Int → List Int × Int
  | [], _, _ => ([], 2)
  | c :: cs, h, o =>
    if whB c = true then unhxR M cs h o
    else if c = 62 then (if h < 0 then (o, 0) else if M ≤ o.length then ([], 7) else (o ++ [h * 16], 0))
    else if dgZ c < 0 then ([], 4)
    else if h < 0 then unhxR M cs (dgZ c) o
    else if M ≤ o.length then ([], 7)
    else unhxR M cs (-1) (o ++ [h * 16 + dgZ c])
/-- The number of five digits, those that lack told as the highest. -/
def v85 (g : List Int) : Int := (((g.getD 0 84 * 85 + g.getD 1 84) * 85 + g.getD 2 84) * 85 + g.getD 3 84) * 85 + g.getD 4 84
/-- A number's four bytes. -/
def by4 (x : Int) : List Int := [x / 16777216 % 256, x / 65536 % 256, x / 256 % 256, x % 256]
/-- A group done. -/
def grpR (M : Nat) (g o : List Int) : List Int × Int :=
  if 4294967295 < v85 g then ([], 4) else if M < o.length + (g.length - 1) then ([], 7) else (o ++ (by4 (v85 g)).take (g.length - 1), 0)
/-- What stands behind the end's first sign. -/
def tlR (l : List Int) : Int := if (sgA l 0).1 < 0 then 2 else if (sgA l 0).1 = 62 then 0 else 4
/-- The last group, if there is one. -/
def lstR (M : Nat) (g o : List Int) : List Int × Int := if g.length = 0 then (o, 0) else if g.length = 1 then ([], 4) else grpR M g o
/-- What digits by groups stand for: g are those that were begun with, o what came. -/
def u85R (M : Nat) : List Int → List Int → List Int → List Int × Int
  | [], _, _ => ([], 2)
  | c :: cs, g, o =>
    if whB c = true then u85R M cs g o
    else if c = 126 then (if (lstR M g o).2 = 0 then (if tlR cs = 0 then ((lstR M g o).1, 0) else ([], tlR cs)) else ([], (lstR M g o).2))
    else if c = 122 ∧ g.length = 0 then (if M < o.length + 4 then ([], 7) else u85R M cs [] (o ++ [0, 0, 0, 0]))
    else if c < 33 ∨ 117 < c then ([], 4)
    else if g.length = 4 then (if (grpR M (g ++ [c - 33]) o).2 = 0 then u85R M cs [] (grpR M (g ++ [c - 33]) o).1 else ([], (grpR M (g ++ [c - 33]) o).2))
    else u85R M cs (g ++ [c - 33]) o

theorem sgA_p : ∀ (l : List Int) (p q : Nat), (sgA l p).1 = (sgA l q).1 ∧ (sgA l p).2 + q = (sgA l q).2 + p
  | [], p, q => ⟨rfl, by simp [sgA]; omega⟩
  | c :: cs, p, q => by
    rw [sgA, sgA]
    split
    · have := sgA_p cs (p + 1) (q + 1)
      exact ⟨this.1, by omega⟩
    · exact ⟨rfl, by simp; omega⟩
theorem unhx_no (M : Nat) : ∀ (l : List Int) (p : Nat) (h : Int) (o : List Int), (∀ z ∈ l, 0 ≤ z ∧ z < 256) → (sgA l p).1 < 0 → unhxR M l h o = ([], 2)
  | [], _, _, _, _, _ => rfl
  | c :: cs, p, h, o, hr, hs => by
    rw [sgA] at hs
    rw [unhxR]
    by_cases hw : whB c = true
    · rw [if_pos hw] at hs ⊢
      exact unhx_no M cs (p + 1) h o (fun z hz => hr z (List.mem_cons_of_mem _ hz)) hs
    · rw [if_neg hw] at hs
      have := hr c (List.mem_cons_self ..)
      simp at hs
      omega
theorem unhx_sg (M : Nat) : ∀ (l : List Int) (p : Nat) (h : Int) (o : List Int), 0 ≤ (sgA l p).1 → unhxR M l h o = unhxR M ((sgA l p).1 :: l.drop ((sgA l p).2 - p)) h o
  | [], _, _, _, hs => by simp [sgA] at hs
  | c :: cs, p, h, o, hs => by
    rw [sgA] at hs ⊢
    by_cases hw : whB c = true
    · rw [if_pos hw] at hs ⊢
      rw [show unhxR M (c :: cs) h o = unhxR M cs h o by rw [unhxR, if_pos hw], unhx_sg M cs (p + 1) h o hs]
      congr 2
      rcases Nat.lt_or_ge p (sgA cs (p + 1)).2 with hlt | hge
      · rw [show (sgA cs (p + 1)).2 - p = ((sgA cs (p + 1)).2 - (p + 1)) + 1 by omega, List.drop_succ_cons]
      · exfalso
        have h1 := (sgA_p cs (p + 1) 0)
        rw [← Nat.zero_add ((sgA cs 0).2)] at h1
        omega
    · rw [if_neg hw]
      simp
theorem u85_no (M : Nat) : ∀ (l : List Int) (p : Nat) (g o : List Int), (∀ z ∈ l, 0 ≤ z ∧ z < 256) → (sgA l p).1 < 0 → u85R M l g o = ([], 2)
  | [], _, _, _, _, _ => rfl
  | c :: cs, p, g, o, hr, hs => by
    rw [sgA] at hs
    rw [u85R]
    by_cases hw : whB c = true
    · rw [if_pos hw] at hs ⊢
      exact u85_no M cs (p + 1) g o (fun z hz => hr z (List.mem_cons_of_mem _ hz)) hs
    · rw [if_neg hw] at hs
      have := hr c (List.mem_cons_self ..)
      simp at hs
      omega
theorem u85_sg (M : Nat) : ∀ (l : List Int) (p : Nat) (g o : List Int), 0 ≤ (sgA l p).1 → u85R M l g o = u85R M ((sgA l p).1 :: l.drop ((sgA l p).2 - p)) g o
  | [], _, _, _, hs => by simp [sgA] at hs
  | c :: cs, p, g, o, hs => by
    rw [sgA] at hs ⊢
    by_cases hw : whB c = true
    · rw [if_pos hw] at hs ⊢
      rw [show u85R M (c :: cs) g o = u85R M cs g o by rw [u85R, if_pos hw], u85_sg M cs (p + 1) g o hs]
      congr 2
      rcases Nat.lt_or_ge p (sgA cs (p + 1)).2 with hlt | hge
      · rw [show (sgA cs (p + 1)).2 - p = ((sgA cs (p + 1)).2 - (p + 1)) + 1 by omega, List.drop_succ_cons]
      · exfalso
        have h1 := (sgA_p cs (p + 1) 0)
        rw [← Nat.zero_add ((sgA cs 0).2)] at h1
        omega
    · rw [if_neg hw]
      simp

/-- Without its white signs. -/
def strip (l : List Int) : List Int := l.filter fun c => !whB c
theorem strip_app (a b : List Int) : strip (a ++ b) = strip a ++ strip b := by simp [strip]
theorem unhx_strip (M : Nat) : ∀ (l : List Int) (h : Int) (o : List Int), unhxR M (strip l) h o = unhxR M l h o
  | [], _, _ => rfl
  | c :: cs, h, o => by
    by_cases hw : whB c = true
    · rw [show strip (c :: cs) = strip cs by simp [strip, hw], unhxR, if_pos hw]
      exact unhx_strip M cs h o
    · rw [show strip (c :: cs) = c :: strip cs by simp [strip, hw], unhxR, unhxR]
      simp only [unhx_strip M cs]
theorem sg_strip : ∀ (l : List Int) (p q : Nat), (sgA (strip l) p).1 = (sgA l q).1
  | [], _, _ => rfl
  | c :: cs, p, q => by
    by_cases hw : whB c = true
    · rw [show strip (c :: cs) = strip cs by simp [strip, hw], sgA, if_pos hw]
      exact sg_strip cs p (q + 1)
    · rw [show strip (c :: cs) = c :: strip cs by simp [strip, hw], sgA, sgA, if_neg hw, if_neg hw]
theorem tl_strip (l : List Int) : tlR (strip l) = tlR l := by unfold tlR; rw [sg_strip l 0 0]
theorem u85_strip (M : Nat) : ∀ (l g o : List Int), u85R M (strip l) g o = u85R M l g o
  | [], _, _ => rfl
  | c :: cs, g, o => by
    by_cases hw : whB c = true
    · rw [show strip (c :: cs) = strip cs by simp [strip, hw], u85R, if_pos hw]
      exact u85_strip M cs g o
    · rw [show strip (c :: cs) = c :: strip cs by simp [strip, hw], u85R, u85R]
      simp only [u85_strip M cs, tl_strip]

/-- A digit of base 16. -/
def hxD (z : Int) : Int := if z < 10 then z + 48 else z + 87
/-- Two digits for each byte. -/
def hxB : List Int → List Int
  | [] => []
  | z :: zs => hxD (z / 16) :: hxD (z % 16) :: hxB zs
theorem hxB_app : ∀ a b : List Int, hxB (a ++ b) = hxB a ++ hxB b
  | [], _ => rfl
  | z :: a, b => by simp [hxB, hxB_app a b]
theorem hxB_len : ∀ a : List Int, (hxB a).length = 2 * a.length
  | [] => rfl
  | z :: a => by simp [hxB, hxB_len a]; omega
/-- Hex. -/
def hexS (zs : List Int) : List Int := hxB zs ++ [62]
theorem hxD_ok (z : Int) (h : 0 ≤ z) (h2 : z < 16) : dgZ (hxD z) = z ∧ whB (hxD z) = false ∧ hxD z ≠ 62 ∧ 48 ≤ hxD z ∧ hxD z ≤ 102 ∧ ¬ (65 ≤ hxD z ∧ hxD z ≤ 70) := by
  have : ∀ k : Fin 16, dgZ (hxD (k.val : Int)) = (k.val : Int) ∧ whB (hxD (k.val : Int)) = false ∧ hxD (k.val : Int) ≠ 62 ∧ 48 ≤ hxD (k.val : Int) ∧ hxD (k.val : Int) ≤ 102 ∧ ¬ (65 ≤ hxD (k.val : Int) ∧ hxD (k.val : Int) ≤ 70) := by decide
  have h3 := this ⟨z.toNat, by omega⟩
  have e : ((z.toNat : Nat) : Int) = z := by omega
  simp only [e] at h3
  exact h3
theorem hxB_rng : ∀ zs : List Int, (∀ z ∈ zs, 0 ≤ z ∧ z < 256) → ∀ c ∈ hxB zs, 48 ≤ c ∧ c ≤ 102 ∧ whB c = false ∧ 0 ≤ dgZ c ∧ ¬ (65 ≤ c ∧ c ≤ 70)
  | [], _ => fun c hc => by cases hc
  | z :: zs, h => fun c hc => by
    have hz := h z (List.mem_cons_self ..)
    rw [hxB] at hc
    rcases List.mem_cons.1 hc with rfl | hc
    · have := hxD_ok (z / 16) (by omega) (by omega)
      exact ⟨this.2.2.2.1, this.2.2.2.2.1, this.2.1, by rw [this.1]; omega, this.2.2.2.2.2⟩
    · rcases List.mem_cons.1 hc with rfl | hc
      · have := hxD_ok (z % 16) (by omega) (by omega)
        exact ⟨this.2.2.2.1, this.2.2.2.2.1, this.2.1, by rw [this.1]; omega, this.2.2.2.2.2⟩
      · exact hxB_rng zs (fun y hy => h y (List.mem_cons_of_mem _ hy)) c hc
theorem strip_id (l : List Int) (h : ∀ c ∈ l, whB c = false) : strip l = l := by
  unfold strip
  rw [List.filter_eq_self]
  intro c hc
  simp [h c hc]
theorem hexS_strip (zs : List Int) (h : ∀ z ∈ zs, 0 ≤ z ∧ z < 256) : strip (hexS zs) = hexS zs := strip_id _ fun c hc => by
  unfold hexS at hc
  rcases List.mem_append.1 hc with hc | hc
  · exact (hxB_rng zs h c hc).2.2.1
  · simp at hc; subst hc; decide
/-- Digits, in either case, are read back. -/
theorem unhx_pair (M : Nat) (a b : Int) (l o : List Int) (ha : 0 ≤ dgZ a) (hb : 0 ≤ dgZ b) (wa : whB a = false) (wb : whB b = false) (na : a ≠ 62) (nb : b ≠ 62) : unhxR M (a :: b :: l) (-1) o = if M ≤ o.length then ([], 7) else unhxR M l (-1) (o ++ [dgZ a * 16 + dgZ b]) := by
  rw [unhxR, if_neg (by simp [wa]), if_neg na, if_neg (by omega), if_pos (by omega), unhxR, if_neg (by simp [wb]), if_neg nb, if_neg (by omega), if_neg (by omega)]
theorem unhx_back (M : Nat) : ∀ (zs l o : List Int) (_ : ∀ z ∈ zs, 0 ≤ z ∧ z < 256) (f : Int → Int) (_ : ∀ c, 48 ≤ c → c ≤ 102 → ¬ (65 ≤ c ∧ c ≤ 70) → 0 ≤ dgZ c → dgZ (f c) = dgZ c ∧ whB (f c) = false ∧ f c ≠ 62), o.length ≤ M → unhxR M ((hxB zs).map f ++ 62 :: l) (-1) o = if M < o.length + zs.length then ([], 7) else (o ++ zs, 0)
  | [], l, o, _, _, _, hM => by
    rw [if_neg (by simp; omega)]
    simp [hxB, unhxR, whB]
  | z :: zs, l, o, h, f, hf, hM => by
    have hz := h z (List.mem_cons_self ..)
    have h1 := hxD_ok (z / 16) (by omega) (by omega)
    have h2 := hxD_ok (z % 16) (by omega) (by omega)
    have f1 := hf _ h1.2.2.2.1 h1.2.2.2.2.1 h1.2.2.2.2.2 (by rw [h1.1]; omega)
    have f2 := hf _ h2.2.2.2.1 h2.2.2.2.2.1 h2.2.2.2.2.2 (by rw [h2.1]; omega)
    rw [h1.1] at f1
    rw [h2.1] at f2
    rw [hxB, List.map_cons, List.map_cons, List.cons_append, List.cons_append, unhx_pair M _ _ _ _ (by rw [f1.1]; omega) (by rw [f2.1]; omega) f1.2.1 f2.2.1 f1.2.2 f2.2.2, f1.1, f2.1]
    by_cases hc : M ≤ o.length
    · rw [if_pos hc, if_pos (by simp; omega)]
    · rw [if_neg hc, show z / 16 * 16 + z % 16 = z by omega, unhx_back M zs l (o ++ [z]) (fun y hy => h y (List.mem_cons_of_mem _ hy)) f hf (by simp; omega)]
      simp only [List.length_append, List.length_cons, List.length_nil, List.append_assoc, List.cons_append, List.nil_append]
      congr 1
      apply propext
      omega
theorem unhx_hexS (M : Nat) (zs l : List Int) (h : ∀ z ∈ zs, 0 ≤ z ∧ z < 256) : unhxR M (hexS zs ++ l) (-1) [] = if M < zs.length then ([], 7) else (zs, 0) := by
  have := unhx_back M zs l [] h id (fun c h1 h2 h3 h4 => ⟨rfl, by
    rw [id]
    unfold whB
    simp
    omega, by
    rw [id]
    intro e
    subst e
    revert h4
    decide⟩) (Nat.zero_le _)
  rw [List.map_id, List.length_nil, Nat.zero_add, List.nil_append] at this
  unfold hexS
  rw [List.append_assoc]
  exact this

/-- A number's five digits of base 85, as signs. -/
def dg5 (x : Int) : List Int := [x / 52200625 % 85 + 33, x / 614125 % 85 + 33, x / 7225 % 85 + 33, x / 85 % 85 + 33, x % 85 + 33]
/-- The number of at most four bytes, noughts behind. -/
def num4 (l : List Int) : Int := ((l.getD 0 0 * 256 + l.getD 1 0) * 256 + l.getD 2 0) * 256 + l.getD 3 0
/-- A group of at most four bytes. -/
def grp85 (l : List Int) : List Int := if num4 l = 0 ∧ l.length = 4 then [122] else (dg5 (num4 l)).take (l.length + 1)
/-- The first groups. -/
def b85G (zs : List Int) : Nat → List Int
  | 0 => []
  | k + 1 => b85G zs k ++ grp85 ((zs.drop (4 * k)).take 4)
/-- Base85. -/
def b85S (zs : List Int) : List Int := b85G zs ((zs.length + 3) / 4) ++ [126, 62]

theorem grp_rng (l : List Int) : ∀ c ∈ grp85 l, (33 ≤ c ∧ c ≤ 117) ∨ c = 122 := by
  intro c hc
  unfold grp85 at hc
  split at hc
  · simp at hc; exact .inr hc
  · have := List.mem_of_mem_take hc
    simp [dg5] at this
    omega
theorem b85G_rng (zs : List Int) : ∀ k, ∀ c ∈ b85G zs k, (33 ≤ c ∧ c ≤ 117) ∨ c = 122
  | 0 => fun c hc => by cases hc
  | k + 1 => fun c hc => by
    rw [b85G] at hc
    rcases List.mem_append.1 hc with hc | hc
    · exact b85G_rng zs k c hc
    · exact grp_rng _ c hc
theorem wh_no (c : Int) (h : 33 ≤ c) : whB c = false := by unfold whB; simp; omega
theorem b85S_strip (zs : List Int) : strip (b85S zs) = b85S zs := strip_id _ fun c hc => by
  unfold b85S at hc
  rcases List.mem_append.1 hc with hc | hc
  · have := b85G_rng zs _ c hc
    exact wh_no c (by omega)
  · simp at hc
    exact wh_no c (by omega)
theorem dg5_len (x : Int) : (dg5 x).length = 5 := rfl
theorem grp_len (l : List Int) : (grp85 l).length ≤ 5 ∧ (grp85 l).length ≤ l.length + 1 := by
  unfold grp85
  split
  · simp
  · rw [List.length_take, dg5_len]; omega
theorem b85G_len (zs : List Int) : ∀ k, (b85G zs k).length ≤ 5 * k
  | 0 => by simp [b85G]
  | k + 1 => by
    have := b85G_len zs k
    have := (grp_len ((zs.drop (4 * k)).take 4)).1
    rw [b85G, List.length_append]
    omega
theorem b85S_len (zs : List Int) : 2 ≤ (b85S zs).length ∧ (b85S zs).length ≤ zs.length / 4 * 5 + 7 := by
  unfold b85S
  rw [List.length_append]
  refine ⟨by simp, ?_⟩
  by_cases h : zs.length % 4 = 0
  · rw [show (zs.length + 3) / 4 = zs.length / 4 by omega]
    have := b85G_len zs (zs.length / 4)
    simp only [List.length_cons, List.length_nil]
    omega
  · rw [show (zs.length + 3) / 4 = zs.length / 4 + 1 by omega, b85G, List.length_append]
    have := b85G_len zs (zs.length / 4)
    have := (grp_len ((zs.drop (4 * (zs.length / 4))).take 4)).1
    simp only [List.length_cons, List.length_nil]
    omega
theorem num4_bd (l : List Int) (h : ∀ z ∈ l, 0 ≤ z ∧ z < 256) : 0 ≤ num4 l ∧ num4 l ≤ 4294967295 := by
  have hg : ∀ i, 0 ≤ l.getD i 0 ∧ l.getD i 0 < 256 := fun i => by
    rcases Nat.lt_or_ge i l.length with hi | hi
    · rw [getD_eq l i hi]; exact h _ (List.getElem_mem hi)
    · rw [show l.getD i 0 = 0 by simp [List.getD, List.getElem?_eq_none hi]]; omega
  have := hg 0
  have := hg 1
  have := hg 2
  have := hg 3
  unfold num4
  omega
/-- A whole group is read back. -/
theorem u85_digs (M : Nat) (a b c d e : Int) (l o : List Int) (ha : 33 ≤ a ∧ a ≤ 117) (hb : 33 ≤ b ∧ b ≤ 117) (hc : 33 ≤ c ∧ c ≤ 117) (hd : 33 ≤ d ∧ d ≤ 117) (he : 33 ≤ e ∧ e ≤ 117) :
    u85R M (a :: b :: c :: d :: e :: l) [] o = if (grpR M [a - 33, b - 33, c - 33, d - 33, e - 33] o).2 = 0 then u85R M l [] (grpR M [a - 33, b - 33, c - 33, d - 33, e - 33] o).1 else ([], (grpR M [a - 33, b - 33, c - 33, d - 33, e - 33] o).2) := by
  rw [u85R, if_neg (by rw [wh_no a ha.1]; decide), if_neg (by omega), if_neg (by omega), if_neg (by omega), if_neg (by decide)]
  rw [u85R, if_neg (by rw [wh_no b hb.1]; decide), if_neg (by omega), if_neg (by omega), if_neg (by omega), if_neg (by simp)]
  rw [u85R, if_neg (by rw [wh_no c hc.1]; decide), if_neg (by omega), if_neg (by omega), if_neg (by omega), if_neg (by simp)]
  rw [u85R, if_neg (by rw [wh_no d hd.1]; decide), if_neg (by omega), if_neg (by omega), if_neg (by omega), if_neg (by simp)]
  rw [u85R, if_neg (by rw [wh_no e he.1]; decide), if_neg (by omega), if_neg (by omega), if_neg (by omega), if_pos (by simp)]
  simp only [List.nil_append, List.cons_append]
theorem by4_num (a b c d : Int) (ha : 0 ≤ a ∧ a < 256) (hb : 0 ≤ b ∧ b < 256) (hc : 0 ≤ c ∧ c < 256) (hd : 0 ≤ d ∧ d < 256) : by4 (((a * 256 + b) * 256 + c) * 256 + d) = [a, b, c, d] := by
  unfold by4
  rw [show (((a * 256 + b) * 256 + c) * 256 + d) / 16777216 % 256 = a by omega, show (((a * 256 + b) * 256 + c) * 256 + d) / 65536 % 256 = b by omega, show (((a * 256 + b) * 256 + c) * 256 + d) / 256 % 256 = c by omega, show (((a * 256 + b) * 256 + c) * 256 + d) % 256 = d by omega]
theorem v85_dg5 (x : Int) (h0 : 0 ≤ x) (h1 : x ≤ 4294967295) : v85 [x / 52200625 % 85 + 33 - 33, x / 614125 % 85 + 33 - 33, x / 7225 % 85 + 33 - 33, x / 85 % 85 + 33 - 33, x % 85 + 33 - 33] = x := by
  unfold v85
  simp only [List.getD, List.getElem?_cons_zero, List.getElem?_cons_succ, Option.getD_some]
  omega
theorem by4_1 (y a : Int) (ha : 0 ≤ a ∧ a < 256) (h : y / 16777216 = a) : (by4 y).take 1 = [a] := by
  simp only [by4, List.take_succ_cons, List.take_zero]
  rw [show y / 16777216 % 256 = a by omega]
theorem by4_2 (y a b : Int) (ha : 0 ≤ a ∧ a < 256) (hb : 0 ≤ b ∧ b < 256) (h : y / 65536 = a * 256 + b) : (by4 y).take 2 = [a, b] := by
  simp only [by4, List.take_succ_cons, List.take_zero]
  rw [show y / 16777216 % 256 = a by omega, show y / 65536 % 256 = b by omega]
theorem by4_3 (y a b c : Int) (ha : 0 ≤ a ∧ a < 256) (hb : 0 ≤ b ∧ b < 256) (hc : 0 ≤ c ∧ c < 256) (h : y / 256 = (a * 256 + b) * 256 + c) : (by4 y).take 3 = [a, b, c] := by
  simp only [by4, List.take_succ_cons, List.take_zero]
  rw [show y / 16777216 % 256 = a by omega, show y / 65536 % 256 = b by omega, show y / 256 % 256 = c by omega]
theorem digs (x : Int) (h0 : 0 ≤ x) (h1 : x ≤ 4294967295) : x / 52200625 % 85 * 85 + x / 614125 % 85 = x / 614125 ∧ x / 614125 * 85 + x / 7225 % 85 = x / 7225 ∧ x / 7225 * 85 + x / 85 % 85 = x / 85 ∧ x / 85 * 85 + x % 85 = x := by
  refine ⟨?_, ?_, ?_, ?_⟩ <;> omega
theorem list4 (l : List Int) (h : l.length = 4) : ∃ a b c d, l = [a, b, c, d] := by
  match l, h with
  | [a, b, c, d], _ => exact ⟨a, b, c, d, rfl⟩
theorem u85_whole (M : Nat) (c l o : List Int) (h : ∀ z ∈ c, 0 ≤ z ∧ z < 256) (hc : c.length = 4) : u85R M (grp85 c ++ l) [] o = if M < o.length + 4 then ([], 7) else u85R M l [] (o ++ c) := by
  obtain ⟨a, b, c1, d, rfl⟩ := list4 c hc
  have ha := h a (by simp)
  have hb := h b (by simp)
  have hc1 := h c1 (by simp)
  have hd := h d (by simp)
  have hn : num4 [a, b, c1, d] = ((a * 256 + b) * 256 + c1) * 256 + d := rfl
  have hbd := num4_bd _ h
  unfold grp85
  by_cases h0 : num4 [a, b, c1, d] = 0
  · rw [if_pos ⟨h0, rfl⟩, List.cons_append, List.nil_append, u85R, if_neg (by decide), if_neg (by decide), if_pos ⟨rfl, rfl⟩]
    rw [hn] at h0
    obtain ⟨rfl, rfl, rfl, rfl⟩ : a = 0 ∧ b = 0 ∧ c1 = 0 ∧ d = 0 := by omega
    rfl
  · rw [if_neg (fun h => h0 h.1)]
    rw [show (dg5 (num4 [a, b, c1, d])).take ([a, b, c1, d].length + 1) = dg5 (num4 [a, b, c1, d]) by rfl]
    rw [dg5, List.cons_append, List.cons_append, List.cons_append, List.cons_append, List.cons_append, List.nil_append, u85_digs M _ _ _ _ _ _ _ (by omega) (by omega) (by omega) (by omega) (by omega)]
    have hgr : grpR M [num4 [a, b, c1, d] / 52200625 % 85 + 33 - 33, num4 [a, b, c1, d] / 614125 % 85 + 33 - 33, num4 [a, b, c1, d] / 7225 % 85 + 33 - 33, num4 [a, b, c1, d] / 85 % 85 + 33 - 33, num4 [a, b, c1, d] % 85 + 33 - 33] o = if M < o.length + 4 then ([], 7) else (o ++ [a, b, c1, d], 0) := by
      unfold grpR
      rw [v85_dg5 _ hbd.1 hbd.2, if_neg (by omega), hn, by4_num a b c1 d ha hb hc1 hd]
      rfl
    rw [hgr]
    by_cases hM : M < o.length + 4
    · rw [if_pos hM, if_pos hM]; rfl
    · rw [if_neg hM, if_neg hM]; rfl
theorem u85_groups (M : Nat) (zs : List Int) (hz : ∀ z ∈ zs, 0 ≤ z ∧ z < 256) : ∀ (k : Nat) (l : List Int), 4 * k ≤ zs.length → 4 * k ≤ M → u85R M (b85G zs k ++ l) [] [] = u85R M l [] (zs.take (4 * k))
  | 0, l, _, _ => by simp [b85G]
  | k + 1, l, h, hM => by
    rw [b85G, List.append_assoc, u85_groups M zs hz k _ (by omega) (by omega), u85_whole M _ _ _ (fun z hm => hz z (List.mem_of_mem_drop (List.mem_of_mem_take hm))) (by rw [List.length_take, List.length_drop]; omega), if_neg (by rw [List.length_take]; omega)]
    rw [show 4 * (k + 1) = 4 * k + 4 by omega, List.take_add]
/-- The last group is read back. -/
theorem u85_rest (M : Nat) (c l o : List Int) (h : ∀ z ∈ c, 0 ≤ z ∧ z < 256) (h1 : 1 ≤ c.length) (h3 : c.length ≤ 3) : u85R M (grp85 c ++ 126 :: 62 :: l) [] o = if M < o.length + c.length then ([], 7) else (o ++ c, 0) := by
  have hw : whB 126 = false := by decide
  have ht : ∀ l, tlR (62 :: l) = 0 := fun l => by unfold tlR; rw [sgA, if_neg (by simp [whB])]; rfl
  match c, h1, h3 with
  | [a], _, _ =>
    have ha := h a (by simp)
    have hn : num4 [a] = a * 16777216 := by unfold num4; simp; omega
    unfold grp85
    rw [if_neg (by simp), hn]
    obtain ⟨x, hx⟩ : ∃ x, a * 16777216 = x := ⟨_, rfl⟩
    rw [hx]
    simp only [dg5, List.length_cons, List.length_nil, List.take_succ_cons, List.take_zero, List.cons_append, List.nil_append]
    rw [u85R, if_neg (by rw [wh_no _ (by omega)]; decide), if_neg (by omega), if_neg (by omega), if_neg (by omega), if_neg (by decide)]
    rw [u85R, if_neg (by rw [wh_no _ (by omega)]; decide), if_neg (by omega), if_neg (by omega), if_neg (by omega), if_neg (by simp)]
    rw [u85R, if_neg (by rw [hw]; decide), if_pos rfl, ht, if_pos rfl]
    simp only [List.nil_append, List.cons_append]
    have hd := digs x (by omega) (by omega)
    have hy : v85 [x / 52200625 % 85 + 33 - 33, x / 614125 % 85 + 33 - 33] = x / 614125 * 614125 + (614125 - 1) := by
      unfold v85
      simp only [List.getD, List.getElem?_cons_zero, List.getElem?_cons_succ, Option.getD_some, List.getElem?_nil, Option.getD_none]
      omega
    have hy2 : (x / 614125 * 614125 + (614125 - 1)) / 16777216 = a ∧ x / 614125 * 614125 + (614125 - 1) ≤ 4294967295 ∧ 0 ≤ x / 614125 * 614125 + (614125 - 1) := by omega
    have hgr : lstR M [x / 52200625 % 85 + 33 - 33, x / 614125 % 85 + 33 - 33] o = if M < o.length + 1 then ([], 7) else (o ++ [a], 0) := by
      unfold lstR grpR
      rw [hy]
      obtain ⟨y, hyy⟩ : ∃ y, x / 614125 * 614125 + (614125 - 1) = y := ⟨_, rfl⟩
      rw [hyy] at hy2 ⊢
      rw [if_neg (by simp), if_neg (by simp), if_neg (by omega)]
      have hb4 := by4_1 y a ha (by omega)
      rw [show ([x / 52200625 % 85 + 33 - 33, x / 614125 % 85 + 33 - 33] : List Int).length - 1 = 1 from rfl, hb4]
    rw [hgr]
    by_cases hM : M < o.length + 1
    · rw [if_pos hM, if_neg (by decide)]
    · rw [if_neg hM, if_pos rfl]
  | [a, b], _, _ =>
    have ha := h a (by simp)
    have hb := h b (by simp)
    have hn : num4 [a, b] = (a * 256 + b) * 65536 := by unfold num4; simp; omega
    unfold grp85
    rw [if_neg (by simp), hn]
    obtain ⟨x, hx⟩ : ∃ x, (a * 256 + b) * 65536 = x := ⟨_, rfl⟩
    rw [hx]
    simp only [dg5, List.length_cons, List.length_nil, List.take_succ_cons, List.take_zero, List.cons_append, List.nil_append]
    rw [u85R, if_neg (by rw [wh_no _ (by omega)]; decide), if_neg (by omega), if_neg (by omega), if_neg (by omega), if_neg (by decide)]
    rw [u85R, if_neg (by rw [wh_no _ (by omega)]; decide), if_neg (by omega), if_neg (by omega), if_neg (by omega), if_neg (by simp)]
    rw [u85R, if_neg (by rw [wh_no _ (by omega)]; decide), if_neg (by omega), if_neg (by omega), if_neg (by omega), if_neg (by simp)]
    rw [u85R, if_neg (by rw [hw]; decide), if_pos rfl, ht, if_pos rfl]
    simp only [List.nil_append, List.cons_append]
    have hd := digs x (by omega) (by omega)
    have hy : v85 [x / 52200625 % 85 + 33 - 33, x / 614125 % 85 + 33 - 33, x / 7225 % 85 + 33 - 33] = x / 7225 * 7225 + (7225 - 1) := by
      unfold v85
      simp only [List.getD, List.getElem?_cons_zero, List.getElem?_cons_succ, Option.getD_some, List.getElem?_nil, Option.getD_none]
      omega
    have hy2 : (x / 7225 * 7225 + (7225 - 1)) / 65536 = (a * 256 + b) ∧ x / 7225 * 7225 + (7225 - 1) ≤ 4294967295 ∧ 0 ≤ x / 7225 * 7225 + (7225 - 1) := by omega
    have hgr : lstR M [x / 52200625 % 85 + 33 - 33, x / 614125 % 85 + 33 - 33, x / 7225 % 85 + 33 - 33] o = if M < o.length + 2 then ([], 7) else (o ++ [a, b], 0) := by
      unfold lstR grpR
      rw [hy]
      obtain ⟨y, hyy⟩ : ∃ y, x / 7225 * 7225 + (7225 - 1) = y := ⟨_, rfl⟩
      rw [hyy] at hy2 ⊢
      rw [if_neg (by simp), if_neg (by simp), if_neg (by omega)]
      have hb4 := by4_2 y a b ha hb (by omega)
      rw [show ([x / 52200625 % 85 + 33 - 33, x / 614125 % 85 + 33 - 33, x / 7225 % 85 + 33 - 33] : List Int).length - 1 = 2 from rfl, hb4]
    rw [hgr]
    by_cases hM : M < o.length + 2
    · rw [if_pos hM, if_neg (by decide)]
    · rw [if_neg hM, if_pos rfl]
  | [a, b, c], _, _ =>
    have ha := h a (by simp)
    have hb := h b (by simp)
    have hc := h c (by simp)
    have hn : num4 [a, b, c] = ((a * 256 + b) * 256 + c) * 256 := by unfold num4; simp
    unfold grp85
    rw [if_neg (by simp), hn]
    obtain ⟨x, hx⟩ : ∃ x, ((a * 256 + b) * 256 + c) * 256 = x := ⟨_, rfl⟩
    rw [hx]
    simp only [dg5, List.length_cons, List.length_nil, List.take_succ_cons, List.take_zero, List.cons_append, List.nil_append]
    rw [u85R, if_neg (by rw [wh_no _ (by omega)]; decide), if_neg (by omega), if_neg (by omega), if_neg (by omega), if_neg (by decide)]
    rw [u85R, if_neg (by rw [wh_no _ (by omega)]; decide), if_neg (by omega), if_neg (by omega), if_neg (by omega), if_neg (by simp)]
    rw [u85R, if_neg (by rw [wh_no _ (by omega)]; decide), if_neg (by omega), if_neg (by omega), if_neg (by omega), if_neg (by simp)]
    rw [u85R, if_neg (by rw [wh_no _ (by omega)]; decide), if_neg (by omega), if_neg (by omega), if_neg (by omega), if_neg (by simp)]
    rw [u85R, if_neg (by rw [hw]; decide), if_pos rfl, ht, if_pos rfl]
    simp only [List.nil_append, List.cons_append]
    have hd := digs x (by omega) (by omega)
    have hy : v85 [x / 52200625 % 85 + 33 - 33, x / 614125 % 85 + 33 - 33, x / 7225 % 85 + 33 - 33, x / 85 % 85 + 33 - 33] = x / 85 * 85 + (85 - 1) := by
      unfold v85
      simp only [List.getD, List.getElem?_cons_zero, List.getElem?_cons_succ, Option.getD_some, List.getElem?_nil, Option.getD_none]
      omega
    have hy2 : (x / 85 * 85 + (85 - 1)) / 256 = ((a * 256 + b) * 256 + c) ∧ x / 85 * 85 + (85 - 1) ≤ 4294967295 ∧ 0 ≤ x / 85 * 85 + (85 - 1) := by omega
    have hgr : lstR M [x / 52200625 % 85 + 33 - 33, x / 614125 % 85 + 33 - 33, x / 7225 % 85 + 33 - 33, x / 85 % 85 + 33 - 33] o = if M < o.length + 3 then ([], 7) else (o ++ [a, b, c], 0) := by
      unfold lstR grpR
      rw [hy]
      obtain ⟨y, hyy⟩ : ∃ y, x / 85 * 85 + (85 - 1) = y := ⟨_, rfl⟩
      rw [hyy] at hy2 ⊢
      rw [if_neg (by simp), if_neg (by simp), if_neg (by omega)]
      have hb4 := by4_3 y a b c ha hb hc (by omega)
      rw [show ([x / 52200625 % 85 + 33 - 33, x / 614125 % 85 + 33 - 33, x / 7225 % 85 + 33 - 33, x / 85 % 85 + 33 - 33] : List Int).length - 1 = 3 from rfl, hb4]
    rw [hgr]
    by_cases hM : M < o.length + 3
    · rw [if_pos hM, if_neg (by decide)]
    · rw [if_neg hM, if_pos rfl]
theorem u85_b85S (M : Nat) (zs l : List Int) (h : ∀ z ∈ zs, 0 ≤ z ∧ z < 256) (hM : zs.length ≤ M + 1) : u85R M (b85S zs ++ l) [] [] = if M < zs.length then ([], 7) else (zs, 0) := by
  have hend : ∀ l o, u85R M (126 :: 62 :: l) [] o = (o, 0) := fun l o => by
    rw [u85R, if_neg (by decide), if_pos rfl, show tlR (62 :: l) = 0 by unfold tlR; rw [sgA, if_neg (by simp [whB])]; rfl]
    rfl
  unfold b85S
  rw [List.append_assoc]
  by_cases h4 : zs.length % 4 = 0
  · rw [show (zs.length + 3) / 4 = zs.length / 4 by omega]
    by_cases hlt : M < zs.length
    · rw [if_pos hlt]
      obtain ⟨k, hk⟩ : ∃ k, zs.length / 4 = k + 1 := ⟨zs.length / 4 - 1, by omega⟩
      rw [hk, b85G, List.append_assoc, u85_groups M zs h k _ (by omega) (by omega), u85_whole M _ _ _ (fun z hm => h z (List.mem_of_mem_drop (List.mem_of_mem_take hm))) (by rw [List.length_take, List.length_drop]; omega), if_pos (by rw [List.length_take]; omega)]
    · rw [if_neg hlt, u85_groups M zs h _ _ (by omega) (by omega)]
      simp only [List.cons_append, List.nil_append]
      rw [hend, List.take_of_length_le (by omega)]
  · rw [show (zs.length + 3) / 4 = zs.length / 4 + 1 by omega, b85G, List.append_assoc, u85_groups M zs h _ _ (by omega) (by omega)]
    simp only [List.cons_append, List.nil_append]
    have hl : ((zs.drop (4 * (zs.length / 4))).take 4).length = zs.length % 4 := by rw [List.length_take, List.length_drop]; omega
    rw [u85_rest M _ _ _ (fun z hm => h z (List.mem_of_mem_drop (List.mem_of_mem_take hm))) (by rw [hl]; omega) (by rw [hl]; omega), hl]
    have e2 : zs.take (4 * (zs.length / 4)) ++ (zs.drop (4 * (zs.length / 4))).take 4 = zs := by
      rw [← List.take_add, List.take_of_length_le (by omega)]
    by_cases hlt : M < zs.length
    · rw [if_pos (by rw [List.length_take]; omega), if_pos hlt]
    · rw [if_neg (by rw [List.length_take]; omega), if_neg hlt, e2]

end Go.Proofs.Ytojbhckgegoldaa
