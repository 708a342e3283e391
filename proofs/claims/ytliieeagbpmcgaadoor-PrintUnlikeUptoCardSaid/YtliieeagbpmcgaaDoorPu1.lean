/- Contracts of functions that the law calls, and what they lean on (a part). -/
import Derived.Test.YtliieeagbpmcgaaDoorProg
import Derived.WalkKit
import Derived.Below
import Derived.Laws.OwnMore
import Derived.Deep.AppendLies
import Derived.Deep.Draws
import Derived.Laws.Rows
import Derived.Lib.Hide
import Derived.IntWalk
import Derived.Shelf.Bytes.SlEqualAll
import Derived.Laws.BitsAllLaws
import Derived.Laws.BitsLemmas
namespace Go.Proofs.YtliieeagbpmcgaaDoor
section
open Go.RowKit
set_option linter.unusedVariables false
/-- The slice '.slice A n c' holds the bytes zs; where there is one, it lies below block B. -/
structure Byt (w : World) (B : Nat) (A : Option Addr) (n c : Nat) (zs : List Int) : Prop where
  len : zs.length = n
  cap : n ≤ c
  rng : ∀ z ∈ zs, 0 ≤ z ∧ z < 256
  cell : 0 < n → ∃ b o, A = some ⟨b, o, none⟩ ∧ b < B ∧ ∀ i, i < n → w.cell? ⟨b, o + i, none⟩ = some (.int .u8 (zs.getD i 0))
section
variable {w w' : World} {B B' n c : Nat} {A : Option Addr} {zs : List Int}
theorem Byt.below (h : Byt w B A n c zs) (hb : Below B' w w') (hB : B ≤ B') : Byt w' B A n c zs :=
  ⟨h.len, h.cap, h.rng, fun hn => by
    obtain ⟨b, o, e, hlt, hc⟩ := h.cell hn
    exact ⟨b, o, e, hlt, fun i hi => (hb.cell (p := ⟨b, o + i, none⟩) (Nat.lt_of_lt_of_le hlt hB)).trans (hc i hi)⟩⟩
theorem Byt.more (h : Byt w B A n c zs) (hB : B ≤ B') : Byt w B' A n c zs :=
  ⟨h.len, h.cap, h.rng, fun hn => by
    obtain ⟨b, o, e, hlt, hc⟩ := h.cell hn
    exact ⟨b, o, e, Nat.lt_of_lt_of_le hlt hB, hc⟩⟩
theorem Byt.drewN (h : Byt w B A n c zs) (k : Nat) : Byt (w.drewN k) B A n c zs := ⟨h.len, h.cap, h.rng, h.cell⟩
theorem Byt.inn (h : Byt w B A n c zs) : Lib.BytesIn w A n zs := fun hn => by
  obtain ⟨b, o, e, _, hc⟩ := h.cell hn
  exact ⟨b, o, e, hc⟩
theorem Byt.getD (h : Byt w B A n c zs) (i : Nat) : 0 ≤ zs.getD i 0 ∧ zs.getD i 0 < 256 := by
  rcases Nat.lt_or_ge i zs.length with hi | hi
  · have e : zs.getD i 0 = zs[i] := by simp [List.getD, hi]
    rw [e]; exact h.rng _ (List.getElem_mem hi)
  · have e : zs.getD i 0 = 0 := by simp [List.getD, List.getElem?_eq_none hi]
    rw [e]; omega
theorem Byt.none_ (w : World) (B : Nat) : Byt w B none 0 0 [] := ⟨rfl, Nat.le_refl _, (fun _ h => by cases h), fun h => absurd h (by omega)⟩
/-- What 'b[l:h]' leaves of the address. -/
def cutA (A : Option Addr) (c l : Nat) : Option Addr := if c = l then A else A.map (·.add l)
theorem cutA_some (b o c l : Nat) (h : l < c) : cutA (some ⟨b, o, none⟩) c l = some ⟨b, o + l, none⟩ := by
  unfold cutA
  rw [if_neg (by omega)]
  simp only [Option.map_some, Addr.add]
  split <;> simp_all
end
theorem below_drewN {B : Nat} {a w : World} (h : Below B a w) (n : Nat) : Below B a (w.drewN n) := ⟨h.os, h.tape, h.output, h.size, h.block⟩
/-- Of what was there, block g alone may have changed. -/
structure Only (g : Nat) (w w' : World) : Prop where
  os : w'.os = w.os
  tape : w'.tape = w.tape
  output : w'.output = w.output
  size : w.heap.size ≤ w'.heap.size
  block : ∀ k, k < w.heap.size → k ≠ g → w'.heap[k]? = w.heap[k]?
section
variable {g : Nat} {a b c w w' : World}
theorem Only.refl (g : Nat) (w : World) : Only g w w := ⟨rfl, rfl, rfl, Nat.le_refl _, fun _ _ _ => rfl⟩
theorem Only.set_ (h : Only g a b) (i : Nat) (u : Value) : Only g a (b.setCell ⟨g, i, none⟩ u) :=
  ⟨h.os, h.tape, h.output, by simpa [World.setCell] using h.size, fun k hk hne => (Below.heap_setCell b ⟨g, i, none⟩ u k hne).trans (h.block k hk hne)⟩
end
/-- The byte at a place; -1: there is none. -/
def peekZ (zs : List Int) (i : Int) : Int := if 0 ≤ i ∧ i < zs.length then zs.getD i.toNat 0 else -1
theorem peekZ_in (zs : List Int) (i : Nat) (h : i < zs.length) : peekZ zs i = zs.getD i 0 := by
  unfold peekZ; rw [if_pos ⟨by omega, by omega⟩]; rfl
theorem peekZ_out (zs : List Int) (i : Int) (h : i < 0 ∨ (zs.length : Int) ≤ i) : peekZ zs i = -1 := by
  unfold peekZ; rw [if_neg (by omega)]
/-- Does a text stand at a place? -/
def stB (zs : List Int) (p : Nat) (s : ByteArray) : Bool := decide (p + s.size ≤ zs.length) && ((strOfNums ((zs.drop p).take s.size)).toList == s.toList)
theorem stB_no (zs : List Int) (p : Nat) (s : ByteArray) (h : zs.length < p + s.size) : stB zs p s = false := by
  unfold stB
  rw [decide_eq_false (by omega)]
  rfl
theorem stB_yes (zs : List Int) (p : Nat) (s : ByteArray) (h : p + s.size ≤ zs.length) : stB zs p s = ((strOfNums ((zs.drop p).take s.size)).toList == s.toList) := by
  unfold stB
  rw [decide_eq_true h]
  rfl
theorem ret_bool {a b : Bool} (h : a = b) : Ending.returned (.bool a) = .returned (.bool b) := by rw [h]
theorem take_snocZ (zs : List Int) (k : Nat) (h : k < zs.length) : zs.take (k + 1) = zs.take k ++ [zs.getD k 0] := by
  rw [List.take_succ_eq_append_getElem h]; simp [List.getD, h]
theorem getD_eq (xs : List Int) (i : Nat) (h : i < xs.length) : xs.getD i 0 = xs[i] := by simp [List.getD, h]
theorem cell_lt {w : World} {p : Addr} {v : Value} (h : w.cell? p = some v) : p.block < w.heap.size := by
  rcases Nat.lt_or_ge p.block w.heap.size with hlt | hge
  · exact hlt
  · have e : w.heap[p.block]? = none := Array.getElem?_eq_none hge
    simp [World.cell?, e] at h
theorem byte_wf {z : Int} (h : (Lit.int .u8 z).wf = true) : 0 ≤ z ∧ z < 256 := by
  simp [Lit.wf] at h
  have e1 : IntKind.u8.min = 0 := by decide
  have e2 : IntKind.u8.max = 255 := by decide
  omega
theorem drop_getD (zs : List Int) (i : Nat) (h : i < zs.length) : zs.drop i = zs.getD i 0 :: zs.drop (i + 1) := by
  rw [List.drop_eq_getElem_cons h]; congr 1; simp [List.getD, h]
end

section
open Go.RowKit
set_option linter.unusedVariables false
/-- Is it a white sign? -/
def whB (c : Int) : Bool := c == 0 || c == 9 || c == 10 || c == 12 || c == 13 || c == 32
/-- What a sign counts as a digit of base 16; -1: it is none. -/
def dgZ (c : Int) : Int := if 48 ≤ c ∧ c ≤ 57 then c - 48 else if 97 ≤ c ∧ c ≤ 102 then c - 97 + 10 else if 65 ≤ c ∧ c ≤ 70 then c - 65 + 10 else -1
/-- What digits by pairs stand for: h is the digit that was begun with (-1: none), o what came. -/
def unhxR (M : Nat) : List Int → Int → List Int → List Int × Int
  | [], _, _ => ([], 2)
  | c :: cs, h, o =>
    if whB c = true then unhxR M cs h o
    else if c = 62 then (if h < 0 then (o, 0) else if M ≤ o.length then ([], 7) else (o ++ [h * 16], 0))
    else if dgZ c < 0 then ([], 4)
    else if h < 0 then unhxR M cs (dgZ c) o
    else if M ≤ o.length then ([], 7)
    else unhxR M cs (-1) (o ++ [h * 16 + dgZ c])
/-- A digit of base 16. -/
def hxD (z : Int) : Int := if z < 10 then z + 48 else z + 87
/-- Two digits for each byte. -/
def hxB : List Int → List Int
  | [] => []
  | z :: zs => hxD (z / 16) :: hxD (z % 16) :: hxB zs
theorem hxB_app : ∀ a b : List Int, hxB (a ++ b) = hxB a ++ hxB b
  | [], _ => rfl
  | z :: a, b => by simp [hxB, hxB_app a b]
theorem hxB_len : ∀ a : List Int, (hxB a).length = 2 * a.length
  | [] => rfl
  | z :: a => by simp [hxB, hxB_len a]; omega
/-- Hex. -/
def hexS (zs : List Int) : List Int := hxB zs ++ [62]
theorem hxD_ok (z : Int) (h : 0 ≤ z) (h2 : z < 16) : dgZ (hxD z) = z ∧ whB (hxD z) = false ∧ hxD z ≠ 62 ∧ 48 ≤ hxD z ∧ hxD z ≤ 102 ∧ ¬ (65 ≤ hxD z ∧ hxD z ≤ 70) := by
  have : ∀ k : Fin 16, dgZ (hxD (k.val : Int)) = (k.val : Int) ∧ whB (hxD (k.val : Int)) = false ∧ hxD (k.val : Int) ≠ 62 ∧ 48 ≤ hxD (k.val : Int) ∧ hxD (k.val : Int) ≤ 102 ∧ ¬ (65 ≤ hxD (k.val : Int) ∧ hxD (k.val : Int) ≤ 70) := by decide
  have h3 := this ⟨z.toNat, by omega⟩
  have e : ((z.toNat : Nat) : Int) = z := by omega
  simp only [e] at h3
  exact h3
theorem hxB_rng : ∀ zs : List Int, (∀ z ∈ zs, 0 ≤ z ∧ z < 256) → ∀ c ∈ hxB zs, 48 ≤ c ∧ c ≤ 102 ∧ whB c = false ∧ 0 ≤ dgZ c ∧ ¬ (65 ≤ c ∧ c ≤ 70)
  | [], _ => fun c hc => by cases hc
  | z :: zs, h => fun c hc => by
    have hz := h z (List.mem_cons_self ..)
    rw [hxB] at hc
    rcases List.mem_cons.1 hc with rfl | hc
    · have := hxD_ok (z / 16) (by omega) (by omega)
      exact ⟨this.2.2.2.1, this.2.2.2.2.1, this.2.1, by rw [this.1]; omega, this.2.2.2.2.2⟩
    · rcases List.mem_cons.1 hc with rfl | hc
      · have := hxD_ok (z % 16) (by omega) (by omega)
        exact ⟨this.2.2.2.1, this.2.2.2.2.1, this.2.1, by rw [this.1]; omega, this.2.2.2.2.2⟩
      · exact hxB_rng zs (fun y hy => h y (List.mem_cons_of_mem _ hy)) c hc
/-- Digits, in either case, are read back. -/
theorem unhx_pair (M : Nat) (a b : Int) (l o : List Int) (ha : 0 ≤ dgZ a) (hb : 0 ≤ dgZ b) (wa : whB a = false) (wb : whB b = false) (na : a ≠ 62) (nb : b ≠ 62) : unhxR M (a :: b :: l) (-1) o = if M ≤ o.length then ([], 7) else unhxR M l (-1) (o ++ [dgZ a * 16 + dgZ b]) := by
  rw [unhxR, if_neg (by simp [wa]), if_neg na, if_neg (by omega), if_pos (by omega), unhxR, if_neg (by simp [wb]), if_neg nb, if_neg (by omega), if_neg (by omega)]
theorem unhx_back (M : Nat) : ∀ (zs l o : List Int) (_ : ∀ z ∈ zs, 0 ≤ z ∧ z < 256) (f : Int → Int) (_ : ∀ c, 48 ≤ c → c ≤ 102 → ¬ (65 ≤ c ∧ c ≤ 70) → 0 ≤ dgZ c → dgZ (f c) = dgZ c ∧ whB (f c) = false ∧ f c ≠ 62), o.length ≤ M → unhxR M ((hxB zs).map f ++ 62 :: l) (-1) o = if M < o.length + zs.length then ([], 7) else (o ++ zs, 0)
  | [], l, o, _, _, _, hM => by
    rw [if_neg (by simp; omega)]
    simp [hxB, unhxR, whB]
  | z :: zs, l, o, h, f, hf, hM => by
    have hz := h z (List.mem_cons_self ..)
    have h1 := hxD_ok (z / 16) (by omega) (by omega)
    have h2 := hxD_ok (z % 16) (by omega) (by omega)
    have f1 := hf _ h1.2.2.2.1 h1.2.2.2.2.1 h1.2.2.2.2.2 (by rw [h1.1]; omega)
    have f2 := hf _ h2.2.2.2.1 h2.2.2.2.2.1 h2.2.2.2.2.2 (by rw [h2.1]; omega)
    rw [h1.1] at f1
    rw [h2.1] at f2
    rw [hxB, List.map_cons, List.map_cons, List.cons_append, List.cons_append, unhx_pair M _ _ _ _ (by rw [f1.1]; omega) (by rw [f2.1]; omega) f1.2.1 f2.2.1 f1.2.2 f2.2.2, f1.1, f2.1]
    by_cases hc : M ≤ o.length
    · rw [if_pos hc, if_pos (by simp; omega)]
    · rw [if_neg hc, show z / 16 * 16 + z % 16 = z by omega, unhx_back M zs l (o ++ [z]) (fun y hy => h y (List.mem_cons_of_mem _ hy)) f hf (by simp; omega)]
      simp only [List.length_append, List.length_cons, List.length_nil, List.append_assoc, List.cons_append, List.nil_append]
      congr 1
      apply propext
      omega
theorem unhx_hexS (M : Nat) (zs l : List Int) (h : ∀ z ∈ zs, 0 ≤ z ∧ z < 256) : unhxR M (hexS zs ++ l) (-1) [] = if M < zs.length then ([], 7) else (zs, 0) := by
  have := unhx_back M zs l [] h id (fun c h1 h2 h3 h4 => ⟨rfl, by
    rw [id]
    unfold whB
    simp
    omega, by
    rw [id]
    intro e
    subst e
    revert h4
    decide⟩) (Nat.zero_le _)
  rw [List.map_id, List.length_nil, Nat.zero_add, List.nil_append] at this
  unfold hexS
  rw [List.append_assoc]
  exact this
end
end Go.Proofs.YtliieeagbpmcgaaDoor
