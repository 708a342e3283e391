/- Contracts of functions that the law calls, and what they lean on (a part). -/
import Derived.Test.YtpomkhcobpihmaaProg
import Derived.WalkKit
import Derived.Below
import Derived.Laws.OwnMore
import Derived.Deep.AppendLies
import Derived.Deep.Draws
import Derived.Laws.Rows
import Derived.Lib.Hide
import Derived.IntWalk
import Derived.Shelf.Bytes.SlEqualAll
import Derived.Laws.BitsAllLaws
import Derived.Laws.BitsLemmas
namespace Go.Proofs.Ytpomkhcobpihmaa
section
open Go.RowKit
set_option linter.unusedVariables false
/-- The slice '.slice A n c' holds the bytes zs; where there is one, it lies below block B. -/
structure Byt (w : World) (B : Nat) (A : Option Addr) (n c : Nat) (zs : List Int) : Prop where
  len : zs.length = n
  cap : n ≤ c
  rng : ∀ z ∈ zs, 0 ≤ z ∧ z < 256
  cell : 0 < n → ∃ b o, A = some ⟨b, o, none⟩ ∧ b < B ∧ ∀ i, i < n → w.cell? ⟨b, o + i, none⟩ = some (.int .u8 (zs.getD i 0))
section
variable {w w' : World} {B B' n c : Nat} {A : Option Addr} {zs : List Int}
theorem Byt.below (h : Byt w B A n c zs) (hb : Below B' w w') (hB : B ≤ B') : Byt w' B A n c zs :=
  ⟨h.len, h.cap, h.rng, fun hn => by
    obtain ⟨b, o, e, hlt, hc⟩ := h.cell hn
    exact ⟨b, o, e, hlt, fun i hi => (hb.cell (p := ⟨b, o + i, none⟩) (Nat.lt_of_lt_of_le hlt hB)).trans (hc i hi)⟩⟩
theorem Byt.more (h : Byt w B A n c zs) (hB : B ≤ B') : Byt w B' A n c zs :=
  ⟨h.len, h.cap, h.rng, fun hn => by
    obtain ⟨b, o, e, hlt, hc⟩ := h.cell hn
    exact ⟨b, o, e, Nat.lt_of_lt_of_le hlt hB, hc⟩⟩
theorem Byt.drewN (h : Byt w B A n c zs) (k : Nat) : Byt (w.drewN k) B A n c zs := ⟨h.len, h.cap, h.rng, h.cell⟩
theorem Byt.inn (h : Byt w B A n c zs) : Lib.BytesIn w A n zs := fun hn => by
  obtain ⟨b, o, e, _, hc⟩ := h.cell hn
  exact ⟨b, o, e, hc⟩
theorem Byt.getD (h : Byt w B A n c zs) (i : Nat) : 0 ≤ zs.getD i 0 ∧ zs.getD i 0 < 256 := by
  rcases Nat.lt_or_ge i zs.length with hi | hi
  · have e : zs.getD i 0 = zs[i] := by simp [List.getD, hi]
    rw [e]; exact h.rng _ (List.getElem_mem hi)
  · have e : zs.getD i 0 = 0 := by simp [List.getD, List.getElem?_eq_none hi]
    rw [e]; omega
/-- Where there is a byte, it lies in block B or beyond. -/
def From (B : Nat) (A : Option Addr) (n : Nat) : Prop := 0 < n → ∀ b o, A = some ⟨b, o, none⟩ → B ≤ b
theorem Byt.set_ (h : Byt w B A n c zs) {g F : Nat} (hf : From F A n) (hg : g < F) (i : Nat) (u : Value) : Byt (w.setCell ⟨g, i, none⟩ u) B A n c zs :=
  ⟨h.len, h.cap, h.rng, fun hn => by
    obtain ⟨b, o, e, hlt, hc⟩ := h.cell hn
    have hb := hf hn b o e
    refine ⟨b, o, e, hlt, fun j hj => ?_⟩
    rw [← hc j hj]
    exact World.cell?_of_block (Below.heap_setCell w ⟨g, i, none⟩ u b (by simp; omega))⟩
theorem Byt.none_ (w : World) (B : Nat) : Byt w B none 0 0 [] := ⟨rfl, Nat.le_refl _, (fun _ h => by cases h), fun h => absurd h (by omega)⟩
/-- What 'b[l:h]' leaves of the address. -/
def cutA (A : Option Addr) (c l : Nat) : Option Addr := if c = l then A else A.map (·.add l)
theorem cutA_some (b o c l : Nat) (h : l < c) : cutA (some ⟨b, o, none⟩) c l = some ⟨b, o + l, none⟩ := by
  unfold cutA
  rw [if_neg (by omega)]
  simp only [Option.map_some, Addr.add]
  split <;> simp_all
theorem Byt.cut (h : Byt w B A n c zs) {l m : Nat} (hm : l + m ≤ n) : Byt w B (cutA A c l) m (c - l) ((zs.drop l).take m) := by
  have hl := h.len
  have hc := h.cap
  refine ⟨by simp; omega, by omega, fun z hz => h.rng z (List.mem_of_mem_drop (List.mem_of_mem_take hz)), fun h0 => ?_⟩
  obtain ⟨b, o, rfl, hlt, hcell⟩ := h.cell (by omega)
  refine ⟨b, o + l, cutA_some b o c l (by omega), hlt, fun i hi => ?_⟩
  rw [Nat.add_assoc, hcell (l + i) (by omega)]
  simp [List.getD, hi]
theorem run_cut {P : Program} (W : World) (t e : TypeId) (ht : P.underlying t = some (.slice e)) (hz : ∀ w, (Go.sizeOf e).run P w = .ok 1 w) (A : Option Addr) (len cap l h : Nat) (hlh : l ≤ h) (hh : h ≤ cap) :
    (Instr.slice t (.slice A len cap) (some (.int .i64 (l : Int))) (some (.int .i64 (h : Int))) none).run P W = .ok (.slice (cutA A cap l) (h - l) (cap - l)) W := by
  have ht' : P.underlying t = some (.slice (P.elem t)) := by simp [Program.elem, ht]
  have he : P.elem t = e := by simp [Program.elem, ht]
  rw [run_slice_lh W t _ _ _ ht' .i64 .i64 _ _ (by omega) (by omega) (by omega), he, hz]
  simp [Result.andThen, sliced, cutA]
end
theorem run_cut2 {P : Program} (W : World) (t e : TypeId) (ht : P.underlying t = some (.slice e)) (hz : ∀ w, (Go.sizeOf e).run P w = .ok 1 w) (A : Option Addr) (len cap l m : Nat) (hh : l + m ≤ cap) :
    (Instr.slice t (.slice A len cap) (some (.int .i64 (l : Int))) (some (.int .i64 ((l : Int) + (m : Int)))) none).run P W = .ok (.slice (cutA A cap l) m (cap - l)) W := by
  have h := run_cut W t e ht hz A len cap l (l + m) (by omega) hh
  rw [Nat.add_sub_cancel_left] at h
  exact h
theorem below_drewN {B : Nat} {a w : World} (h : Below B a w) (n : Nat) : Below B a (w.drewN n) := ⟨h.os, h.tape, h.output, h.size, h.block⟩
/-- Of what was there, block g alone may have changed. -/
structure Only (g : Nat) (w w' : World) : Prop where
  os : w'.os = w.os
  tape : w'.tape = w.tape
  output : w'.output = w.output
  size : w.heap.size ≤ w'.heap.size
  block : ∀ k, k < w.heap.size → k ≠ g → w'.heap[k]? = w.heap[k]?
section
variable {g : Nat} {a b c w w' : World}
theorem Only.refl (g : Nat) (w : World) : Only g w w := ⟨rfl, rfl, rfl, Nat.le_refl _, fun _ _ _ => rfl⟩
theorem Only.trans (h : Only g a b) (k : Only g b c) : Only g a c :=
  ⟨k.os.trans h.os, k.tape.trans h.tape, k.output.trans h.output, Nat.le_trans h.size k.size, fun i hi hne => (k.block i (Nat.lt_of_lt_of_le hi h.size) hne).trans (h.block i hi hne)⟩
theorem Only.of_below (h : Below a.heap.size a b) (g : Nat) : Only g a b := ⟨h.os, h.tape, h.output, h.size, fun i hi _ => h.block i hi⟩
theorem Only.drewN (h : Only g a b) (n : Nat) : Only g a (b.drewN n) := ⟨h.os, h.tape, h.output, h.size, h.block⟩
theorem Only.alloc (h : Only g a b) (o : Obj) : Only g a (b.alloc o) := h.trans (Only.of_below ((Below.refl _ _).alloc (Nat.le_refl _) o) g)
theorem Only.set_ (h : Only g a b) (i : Nat) (u : Value) : Only g a (b.setCell ⟨g, i, none⟩ u) :=
  ⟨h.os, h.tape, h.output, by simpa [World.setCell] using h.size, fun k hk hne => (Below.heap_setCell b ⟨g, i, none⟩ u k hne).trans (h.block k hk hne)⟩
theorem Only.below (h : Only g a b) (hg : g ≤ a.heap.size) : Below g a b := ⟨h.os, h.tape, h.output, h.size, fun k hk => h.block k (Nat.lt_of_lt_of_le hk hg) (Nat.ne_of_lt hk)⟩
theorem Only.belowB {B : Nat} (h : Only g a b) (hB : B ≤ g) (hg : g ≤ a.heap.size) : Below B a b := (h.below hg).mono hB
theorem Only.cell (h : Only g a b) {p : Addr} (hp : p.block < a.heap.size) (hne : p.block ≠ g) : b.cell? p = a.cell? p := World.cell?_of_block (w := a) (h.block p.block hp hne)
end
theorem Byt.only {w w' : World} {B g n c : Nat} {A : Option Addr} {zs : List Int} (h : Byt w B A n c zs) (ho : Only g w w') (hB : B ≤ g) (hg : g ≤ w.heap.size) : Byt w' B A n c zs := h.below (ho.below hg) hB
theorem Byt.onlyF {w w' : World} {B F g n c : Nat} {A : Option Addr} {zs : List Int} (h : Byt w B A n c zs) (ho : Only g w w') (hf : From F A n) (hg : g < F) (hB : B ≤ w.heap.size) : Byt w' B A n c zs :=
  ⟨h.len, h.cap, h.rng, fun hn => by
    obtain ⟨b, o, e, hlt, hc⟩ := h.cell hn
    have hb := hf hn b o e
    exact ⟨b, o, e, hlt, fun j hj => (ho.cell (p := ⟨b, o + j, none⟩) (Nat.lt_of_lt_of_le hlt hB) (Nat.ne_of_gt (Nat.lt_of_lt_of_le hg hb))).trans (hc j hj)⟩⟩
/-- The byte at a place; -1: there is none. -/
def peekZ (zs : List Int) (i : Int) : Int := if 0 ≤ i ∧ i < zs.length then zs.getD i.toNat 0 else -1
theorem peekZ_in (zs : List Int) (i : Nat) (h : i < zs.length) : peekZ zs i = zs.getD i 0 := by
  unfold peekZ; rw [if_pos ⟨by omega, by omega⟩]; rfl
theorem peekZ_out (zs : List Int) (i : Int) (h : i < 0 ∨ (zs.length : Int) ≤ i) : peekZ zs i = -1 := by
  unfold peekZ; rw [if_neg (by omega)]
/-- Does a text stand at a place? -/
def stB (zs : List Int) (p : Nat) (s : ByteArray) : Bool := decide (p + s.size ≤ zs.length) && ((strOfNums ((zs.drop p).take s.size)).toList == s.toList)
theorem stB_no (zs : List Int) (p : Nat) (s : ByteArray) (h : zs.length < p + s.size) : stB zs p s = false := by
  unfold stB
  rw [decide_eq_false (by omega)]
  rfl
theorem stB_yes (zs : List Int) (p : Nat) (s : ByteArray) (h : p + s.size ≤ zs.length) : stB zs p s = ((strOfNums ((zs.drop p).take s.size)).toList == s.toList) := by
  unfold stB
  rw [decide_eq_true h]
  rfl
theorem quietL {P : Program} {f : FuncId} {args : Array Value} {w : World} {n : Nat} {v : Value} (h : Calls P f args (w.drewN n) fun e w' => e = .returned v ∧ w.drewN n = w') :
    Calls P f args (w.drewN n) fun e w'' => e = .returned v ∧ ∃ m, w'' = w.drewN m := h.mono fun _ _ ⟨he, hm⟩ => ⟨he, n, hm.symm⟩
theorem ret_int {k : IntKind} {a b : Int} (h : a = b) : Ending.returned (.int k a) = .returned (.int k b) := by rw [h]
theorem ret_bool {a b : Bool} (h : a = b) : Ending.returned (.bool a) = .returned (.bool b) := by rw [h]
theorem getD_eq (xs : List Int) (i : Nat) (h : i < xs.length) : xs.getD i 0 = xs[i] := by simp [List.getD, h]
theorem cell_lt {w : World} {p : Addr} {v : Value} (h : w.cell? p = some v) : p.block < w.heap.size := by
  rcases Nat.lt_or_ge p.block w.heap.size with hlt | hge
  · exact hlt
  · have e : w.heap[p.block]? = none := Array.getElem?_eq_none hge
    simp [World.cell?, e] at h
theorem byte_wf {z : Int} (h : (Lit.int .u8 z).wf = true) : 0 ≤ z ∧ z < 256 := by
  simp [Lit.wf] at h
  have e1 : IntKind.u8.min = 0 := by decide
  have e2 : IntKind.u8.max = 255 := by decide
  omega
theorem drop_getD (zs : List Int) (i : Nat) (h : i < zs.length) : zs.drop i = zs.getD i 0 :: zs.drop (i + 1) := by
  rw [List.drop_eq_getElem_cons h]; congr 1; simp [List.getD, h]
theorem Byt.alloc {w : World} {B n c : Nat} {A : Option Addr} {zs : List Int} (h : Byt w B A n c zs) (hB : B ≤ w.heap.size) (o : Obj) : Byt (w.alloc o) B A n c zs := h.below ((Below.refl _ _).alloc (Nat.le_refl _) o) hB
end

section
open Go.RowKit
set_option linter.unusedVariables false
/-- Is it a white sign? -/
def whB (c : Int) : Bool := c == 0 || c == 9 || c == 10 || c == 12 || c == 13 || c == 32
/-- What a sign counts as a digit of base 16; -1: it is none. -/
def dgZ (c : Int) : Int := if 48 ≤ c ∧ c ≤ 57 then c - 48 else if 97 ≤ c ∧ c ≤ 102 then c - 97 + 10 else if 65 ≤ c ∧ c ≤ 70 then c - 65 + 10 else -1
theorem dgZ_bd (c : Int) : -1 ≤ dgZ c ∧ dgZ c ≤ 15 := by unfold dgZ; split <;> (try split) <;> (try split) <;> omega
/-- The first sign that is not white (-1: there is none), and the place behind it. -/
def sgA : List Int → Nat → Int × Nat
  | [], p => (-1, p)
  | c :: cs, p => if whB c = true then sgA cs (p + 1) else (c, p + 1)
theorem sgA_bd : ∀ (l : List Int) (p : Nat), (∀ z ∈ l, 0 ≤ z ∧ z < 256) → ((sgA l p).1 = -1 ∧ (sgA l p).2 = p + l.length) ∨ (0 ≤ (sgA l p).1 ∧ (sgA l p).1 < 256 ∧ p < (sgA l p).2 ∧ (sgA l p).2 ≤ p + l.length ∧ whB (sgA l p).1 = false)
  | [], p, _ => .inl ⟨rfl, rfl⟩
  | c :: cs, p, h => by
    rw [sgA]
    split
    · rcases sgA_bd cs (p + 1) (fun z hz => h z (List.mem_cons_of_mem _ hz)) with ⟨h1, h2⟩ | ⟨h1, h2, h3, h4, h5⟩
      · exact .inl ⟨h1, by rw [h2, List.length_cons]; omega⟩
      · exact .inr ⟨h1, h2, by omega, by rw [List.length_cons]; omega, h5⟩
    · rename_i hw
      have hc := h c (List.mem_cons_self ..)
      exact .inr ⟨hc.1, hc.2, by simp, by simp, by simpa using hw⟩
/-- What digits by pairs stand for: h is the digit that was begun with (-1: none), o what came. -/
def unhxR (M : Nat) : List Int → Int → List Int → List Int × Int
  | [], _, _ => ([], 2)
  | c :: cs, h, o =>
    if whB c = true then unhxR M cs h o
    else if c = 62 then (if h < 0 then (o, 0) else if M ≤ o.length then ([], 7) else (o ++ [h * 16], 0))
    else if dgZ c < 0 then ([], 4)
    else if h < 0 then unhxR M cs (dgZ c) o
    else if M ≤ o.length then ([], 7)
    else unhxR M cs (-1) (o ++ [h * 16 + dgZ c])
theorem sgA_p : ∀ (l : List Int) (p q : Nat), (sgA l p).1 = (sgA l q).1 ∧ (sgA l p).2 + q = (sgA l q).2 + p
  | [], p, q => ⟨rfl, by simp [sgA]; omega⟩
  | c :: cs, p, q => by
    rw [sgA, sgA]
    split
    · have := sgA_p cs (p + 1) (q + 1)
      exact ⟨this.1, by omega⟩
    · exact ⟨rfl, by simp; omega⟩
theorem unhx_no (M : Nat) : ∀ (l : List Int) (p : Nat) (h : Int) (o : List Int), (∀ z ∈ l, 0 ≤ z ∧ z < 256) → (sgA l p).1 < 0 → unhxR M l h o = ([], 2)
  | [], _, _, _, _, _ => rfl
  | c :: cs, p, h, o, hr, hs => by
    rw [sgA] at hs
    rw [unhxR]
    by_cases hw : whB c = true
    · rw [if_pos hw] at hs ⊢
      exact unhx_no M cs (p + 1) h o (fun z hz => hr z (List.mem_cons_of_mem _ hz)) hs
    · rw [if_neg hw] at hs
      have := hr c (List.mem_cons_self ..)
      simp at hs
      omega
theorem unhx_sg (M : Nat) : ∀ (l : List Int) (p : Nat) (h : Int) (o : List Int), 0 ≤ (sgA l p).1 → unhxR M l h o = unhxR M ((sgA l p).1 :: l.drop ((sgA l p).2 - p)) h o
  | [], _, _, _, hs => by simp [sgA] at hs
  | c :: cs, p, h, o, hs => by
    rw [sgA] at hs ⊢
    by_cases hw : whB c = true
    · rw [if_pos hw] at hs ⊢
      rw [show unhxR M (c :: cs) h o = unhxR M cs h o by rw [unhxR, if_pos hw], unhx_sg M cs (p + 1) h o hs]
      congr 2
      rcases Nat.lt_or_ge p (sgA cs (p + 1)).2 with hlt | hge
      · rw [show (sgA cs (p + 1)).2 - p = ((sgA cs (p + 1)).2 - (p + 1)) + 1 by omega, List.drop_succ_cons]
      · exfalso
        have h1 := (sgA_p cs (p + 1) 0)
        rw [← Nat.zero_add ((sgA cs 0).2)] at h1
        omega
    · rw [if_neg hw]
      simp
/-- A digit of base 16. -/
def hxD (z : Int) : Int := if z < 10 then z + 48 else z + 87
theorem hxD_ok (z : Int) (h : 0 ≤ z) (h2 : z < 16) : dgZ (hxD z) = z ∧ whB (hxD z) = false ∧ hxD z ≠ 62 ∧ 48 ≤ hxD z ∧ hxD z ≤ 102 ∧ ¬ (65 ≤ hxD z ∧ hxD z ≤ 70) := by
  have : ∀ k : Fin 16, dgZ (hxD (k.val : Int)) = (k.val : Int) ∧ whB (hxD (k.val : Int)) = false ∧ hxD (k.val : Int) ≠ 62 ∧ 48 ≤ hxD (k.val : Int) ∧ hxD (k.val : Int) ≤ 102 ∧ ¬ (65 ≤ hxD (k.val : Int) ∧ hxD (k.val : Int) ≤ 70) := by decide
  have h3 := this ⟨z.toNat, by omega⟩
  have e : ((z.toNat : Nat) : Int) = z := by omega
  simp only [e] at h3
  exact h3
end
end Go.Proofs.Ytpomkhcobpihmaa
