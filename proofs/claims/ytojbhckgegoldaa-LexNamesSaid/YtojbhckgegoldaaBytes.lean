/- Words for the proofs: a slice of bytes that reads as a list of numbers, and plain facts about lists and numbers; no program is walked here. -/
import Derived.Test.YtojbhckgegoldaaProg
import Derived.WalkKit
import Derived.Below
import Derived.Laws.OwnMore
import Derived.Deep.AppendLies
import Derived.Deep.Draws
import Derived.Laws.Rows
import Derived.Lib.Hide
import Derived.IntWalk
import Derived.Shelf.Bytes.SlEqualAll
import Derived.Laws.BitsAllLaws
import Derived.Laws.BitsLemmas
namespace Go.Proofs.Ytojbhckgegoldaa
open Go.RowKit
set_option linter.unusedVariables false

/-- The slice '.slice A n c' holds the bytes zs; where there is one, it lies below block B. -/
structure Byt (w : World) (B : Nat) (A : Option Addr) (n c : Nat) (zs : List Int) : Prop where
  len : zs.length = n
  cap : n ≤ c
  rng : ∀ z ∈ zs, 0 ≤ z ∧ z < 256
  cell : 0 < n → ∃ b o, A = some ⟨b, o, none⟩ ∧ b < B ∧ ∀ i, i < n → w.cell? ⟨b, o + i, none⟩ = some (.int .u8 (zs.getD i 0))

section
variable {w w' : World} {B B' n c : Nat} {A : Option Addr} {zs : List Int}
theorem Byt.below (h : Byt w B A n c zs) (hb : Below B' w w') (hB : B ≤ B') : Byt w' B A n c zs :=
  ⟨h.len, h.cap, h.rng, fun hn => by
    obtain ⟨b, o, e, hlt, hc⟩ := h.cell hn
    exact ⟨b, o, e, hlt, fun i hi => (hb.cell (p := ⟨b, o + i, none⟩) (Nat.lt_of_lt_of_le hlt hB)).trans (hc i hi)⟩⟩

theorem Byt.more (h : Byt w B A n c zs) (hB : B ≤ B') : Byt w B' A n c zs :=
  ⟨h.len, h.cap, h.rng, fun hn => by
    obtain ⟨b, o, e, hlt, hc⟩ := h.cell hn
    exact ⟨b, o, e, Nat.lt_of_lt_of_le hlt hB, hc⟩⟩

theorem Byt.drewN (h : Byt w B A n c zs) (k : Nat) : Byt (w.drewN k) B A n c zs := ⟨h.len, h.cap, h.rng, h.cell⟩

theorem Byt.inn (h : Byt w B A n c zs) : Lib.BytesIn w A n zs := fun hn => by
  obtain ⟨b, o, e, _, hc⟩ := h.cell hn
  exact ⟨b, o, e, hc⟩

theorem Byt.getD (h : Byt w B A n c zs) (i : Nat) : 0 ≤ zs.getD i 0 ∧ zs.getD i 0 < 256 := by
  rcases Nat.lt_or_ge i zs.length with hi | hi
  · have e : zs.getD i 0 = zs[i] := by simp [List.getD, hi]
    rw [e]; exact h.rng _ (List.getElem_mem hi)
  · have e : zs.getD i 0 = 0 := by simp [List.getD, List.getElem?_eq_none hi]
    rw [e]; omega

/-- Where there is a byte, it lies in block B or beyond. -/
def From (B : Nat) (A : Option Addr) (n : Nat) : Prop := 0 < n → ∀ b o, A = some ⟨b, o, none⟩ → B ≤ b

theorem Byt.set_ (h : Byt w B A n c zs) {g F : Nat} (hf : From F A n) (hg : g < F) (i : Nat) (u : Value) : Byt (w.setCell ⟨g, i, none⟩ u) B A n c zs :=
  ⟨h.len, h.cap, h.rng, fun hn => by
    obtain ⟨b, o, e, hlt, hc⟩ := h.cell hn
    have hb := hf hn b o e
    refine ⟨b, o, e, hlt, fun j hj => ?_⟩
    rw [← hc j hj]
    exact World.cell?_of_block (Below.heap_setCell w ⟨g, i, none⟩ u b (by simp; omega))⟩

theorem Byt.none_ (w : World) (B : Nat) : Byt w B none 0 0 [] := ⟨rfl, Nat.le_refl _, (fun _ h => by cases h), fun h => absurd h (by omega)⟩

/-- What 'b[l:h]' leaves of the address. -/
def cutA (A : Option Addr) (c l : Nat) : Option Addr := if c = l then A else A.map (·.add l)

theorem cutA_some (b o c l : Nat) (h : l < c) : cutA (some ⟨b, o, none⟩) c l = some ⟨b, o + l, none⟩ := by
  unfold cutA
  rw [if_neg (by omega)]
  simp only [Option.map_some, Addr.add]
  split <;> simp_all

theorem Byt.cut (h : Byt w B A n c zs) {l m : Nat} (hm : l + m ≤ n) : Byt w B (cutA A c l) m (c - l) ((zs.drop l).take m) := by
  have hl := h.len
  have hc := h.cap
  refine ⟨by simp; omega, by omega, fun z hz => h.rng z (List.mem_of_mem_drop (List.mem_of_mem_take hz)), fun h0 => ?_⟩
  obtain ⟨b, o, rfl, hlt, hcell⟩ := h.cell (by omega)
  refine ⟨b, o + l, cutA_some b o c l (by omega), hlt, fun i hi => ?_⟩
  rw [Nat.add_assoc, hcell (l + i) (by omega)]
  simp [List.getD, hi]

theorem run_cut {P : Program} (W : World) (t e : TypeId) (ht : P.underlying t = some (.slice e)) (hz : ∀ w, (Go.sizeOf e).run P w = .ok 1 w) (A : Option Addr) (len cap l h : Nat) (hlh : l ≤ h) (hh : h ≤ cap) :
    (Instr.slice t (.slice A len cap) (some (.int .i64 (l : Int))) (some (.int .i64 (h : Int))) none).run P W = .ok (.slice (cutA A cap l) (h - l) (cap - l)) W := by
  have ht' : P.underlying t = some (.slice (P.elem t)) := by simp [Program.elem, ht]
  have he : P.elem t = e := by simp [Program.elem, ht]
  rw [run_slice_lh W t _ _ _ ht' .i64 .i64 _ _ (by omega) (by omega) (by omega), he, hz]
  simp [Result.andThen, sliced, cutA]

end

theorem run_cut2 {P : Program} (W : World) (t e : TypeId) (ht : P.underlying t = some (.slice e)) (hz : ∀ w, (Go.sizeOf e).run P w = .ok 1 w) (A : Option Addr) (len cap l m : Nat) (hh : l + m ≤ cap) :
    (Instr.slice t (.slice A len cap) (some (.int .i64 (l : Int))) (some (.int .i64 ((l : Int) + (m : Int)))) none).run P W = .ok (.slice (cutA A cap l) m (cap - l)) W := by
  have h := run_cut W t e ht hz A len cap l (l + m) (by omega) hh
  rw [Nat.add_sub_cancel_left] at h
  exact h

theorem below_drewN {B : Nat} {a w : World} (h : Below B a w) (n : Nat) : Below B a (w.drewN n) := ⟨h.os, h.tape, h.output, h.size, h.block⟩

/-- Of what was there, block g alone may have changed. -/
structure Only (g : Nat) (w w' : World) : Prop where
  os : w'.os = w.os
  tape : w'.tape = w.tape
  output : w'.output = w.output
  size : w.heap.size ≤ w'.heap.size
  block : ∀ k, k < w.heap.size → k ≠ g → w'.heap[k]? = w.heap[k]?

section
variable {g : Nat} {a b c w w' : World}
theorem Only.refl (g : Nat) (w : World) : Only g w w := ⟨rfl, rfl, rfl, Nat.le_refl _, fun _ _ _ => rfl⟩

theorem Only.trans (h : Only g a b) (k : Only g b c) : Only g a c :=
  ⟨k.os.trans h.os, k.tape.trans h.tape, k.output.trans h.output, Nat.le_trans h.size k.size, fun i hi hne => (k.block i (Nat.lt_of_lt_of_le hi h.size) hne).trans (h.block i hi hne)⟩

theorem Only.of_below (h : Below a.heap.size a b) (g : Nat) : Only g a b := ⟨h.os, h.tape, h.output, h.size, fun i hi _ => h.block i hi⟩

theorem Only.drewN (h : Only g a b) (n : Nat) : Only g a (b.drewN n) := ⟨h.os, h.tape, h.output, h.size, h.block⟩

theorem Only.alloc (h : Only g a b) (o : Obj) : Only g a (b.alloc o) := h.trans (Only.of_below ((Below.refl _ _).alloc (Nat.le_refl _) o) g)

theorem Only.set_ (h : Only g a b) (i : Nat) (u : Value) : Only g a (b.setCell ⟨g, i, none⟩ u) :=
  ⟨h.os, h.tape, h.output, by simpa [World.setCell] using h.size, fun k hk hne => (Below.heap_setCell b ⟨g, i, none⟩ u k hne).trans (h.block k hk hne)⟩

theorem Only.below (h : Only g a b) (hg : g ≤ a.heap.size) : Below g a b := ⟨h.os, h.tape, h.output, h.size, fun k hk => h.block k (Nat.lt_of_lt_of_le hk hg) (Nat.ne_of_lt hk)⟩

theorem Only.belowB {B : Nat} (h : Only g a b) (hB : B ≤ g) (hg : g ≤ a.heap.size) : Below B a b := (h.below hg).mono hB

theorem Only.cell (h : Only g a b) {p : Addr} (hp : p.block < a.heap.size) (hne : p.block ≠ g) : b.cell? p = a.cell? p := World.cell?_of_block (w := a) (h.block p.block hp hne)

end

theorem Byt.only {w w' : World} {B g n c : Nat} {A : Option Addr} {zs : List Int} (h : Byt w B A n c zs) (ho : Only g w w') (hB : B ≤ g) (hg : g ≤ w.heap.size) : Byt w' B A n c zs := h.below (ho.below hg) hB

theorem Byt.onlyF {w w' : World} {B F g n c : Nat} {A : Option Addr} {zs : List Int} (h : Byt w B A n c zs) (ho : Only g w w') (hf : From F A n) (hg : g < F) (hB : B ≤ w.heap.size) : Byt w' B A n c zs :=
  ⟨h.len, h.cap, h.rng, fun hn => by
    obtain ⟨b, o, e, hlt, hc⟩ := h.cell hn
    have hb := hf hn b o e
    exact ⟨b, o, e, hlt, fun j hj => (ho.cell (p := ⟨b, o + j, none⟩) (Nat.lt_of_lt_of_le hlt hB) (Nat.ne_of_gt (Nat.lt_of_lt_of_le hg hb))).trans (hc j hj)⟩⟩

/-- The byte at a place; -1: there is none. -/
def peekZ (zs : List Int) (i : Int) : Int := if 0 ≤ i ∧ i < zs.length then zs.getD i.toNat 0 else -1

theorem peekZ_in (zs : List Int) (i : Nat) (h : i < zs.length) : peekZ zs i = zs.getD i 0 := by
  unfold peekZ; rw [if_pos ⟨by omega, by omega⟩]; rfl

theorem peekZ_out (zs : List Int) (i : Int) (h : i < 0 ∨ (zs.length : Int) ≤ i) : peekZ zs i = -1 := by
  unfold peekZ; rw [if_neg (by omega)]

/-- Does a text stand at a place? -/
def stB (zs : List Int) (p : Nat) (s : ByteArray) : Bool := decide (p + s.size ≤ zs.length) && ((strOfNums ((zs.drop p).take s.size)).toList == s.toList)

theorem stB_no (zs : List Int) (p : Nat) (s : ByteArray) (h : zs.length < p + s.size) : stB zs p s = false := by
  unfold stB
  rw [decide_eq_false (by omega)]
  rfl

theorem stB_yes (zs : List Int) (p : Nat) (s : ByteArray) (h : p + s.size ≤ zs.length) : stB zs p s = ((strOfNums ((zs.drop p).take s.size)).toList == s.toList) := by
  unfold stB
  rw [decide_eq_true h]
  rfl

theorem quietL {P : Program} {f : FuncId} {args : Array Value} {w : World} {n : Nat} {v : Value} (h : Calls P f args (w.drewN n) fun e w' => e = .returned v ∧ w.drewN n = w') :
    Calls P f args (w.drewN n) fun e w'' => e = .returned v ∧ ∃ m, w'' = w.drewN m := h.mono fun _ _ ⟨he, hm⟩ => ⟨he, n, hm.symm⟩

theorem ret_int {k : IntKind} {a b : Int} (h : a = b) : Ending.returned (.int k a) = .returned (.int k b) := by rw [h]

theorem ret_pair {a b c d : Value} (h1 : a = b) (h2 : c = d) : Ending.returned (.tuple #[a, c]) = .returned (.tuple #[b, d]) := by rw [h1, h2]

theorem int_eq {k : IntKind} {a b : Int} (h : a = b) : Value.int k a = .int k b := by rw [h]

theorem bool_eq {a b : Bool} (h : a = b) : Value.bool a = .bool b := by rw [h]

theorem ret_bool {a b : Bool} (h : a = b) : Ending.returned (.bool a) = .returned (.bool b) := by rw [h]

/-- The number of bytes, the highest first. -/
def numZ (zs : List Int) : Int := zs.foldl (fun a z => a * 256 + z) 0

theorem numZ_snoc (zs : List Int) (z : Int) : numZ (zs ++ [z]) = numZ zs * 256 + z := by simp [numZ]

theorem take_snocZ (zs : List Int) (k : Nat) (h : k < zs.length) : zs.take (k + 1) = zs.take k ++ [zs.getD k 0] := by
  rw [List.take_succ_eq_append_getElem h]; simp [List.getD, h]

theorem numZ_take (zs : List Int) (k : Nat) (h : k < zs.length) : numZ (zs.take (k + 1)) = numZ (zs.take k) * 256 + zs.getD k 0 := by
  rw [take_snocZ zs k h, numZ_snoc]

theorem numZ_lt (zs : List Int) (hr : ∀ z ∈ zs, 0 ≤ z ∧ z < 256) : ∀ k, k ≤ zs.length → 0 ≤ numZ (zs.take k) ∧ numZ (zs.take k) < 256 ^ k := by
  intro k
  induction k with
  | zero => intro _; simp [numZ]
  | succ k ih =>
    intro hk
    have h1 := ih (by omega)
    have hz := hr _ (List.getElem_mem (show k < zs.length by omega))
    have e : zs.getD k 0 = zs[k] := by simp [List.getD, show k < zs.length by omega]
    rw [numZ_take zs k (by omega), e]
    have e2 : (256 : Int) ^ (k + 1) = 256 ^ k * 256 := Int.pow_succ 256 k
    omega

theorem numZ_bd (zs : List Int) (hr : ∀ z ∈ zs, 0 ≤ z ∧ z < 256) (k : Nat) (hk : k ≤ zs.length) (h7 : k ≤ 6) : 0 ≤ numZ (zs.take k) ∧ numZ (zs.take k) < 281474976710656 := by
  have h := numZ_lt zs hr k hk
  have h2 : (256 : Int) ^ k ≤ 281474976710656 := by
    match k, h7 with
    | 0, _ => decide
    | 1, _ => decide
    | 2, _ => decide
    | 3, _ => decide
    | 4, _ => decide
    | 5, _ => decide
    | 6, _ => decide
  omega

theorem or_byte (v z : Int) (v0 : 0 ≤ v) (v1 : v < 281474976710656) (z0 : 0 ≤ z) (z1 : z < 256) : bits .or .i64 (v * 256) z = v * 256 + z := by
  obtain ⟨a, rfl⟩ : ∃ a : Nat, v = a := ⟨v.toNat, by omega⟩
  obtain ⟨b, rfl⟩ : ∃ b : Nat, z = b := ⟨z.toNat, by omega⟩
  have e0 : (a : Int) * 256 = ((a * 256 : Nat) : Int) := by omega
  have f : ∀ x : Nat, x < 9223372036854775808 → (BitVec.ofInt 64 (x : Int)).toNat = x := fun x hx => by
    rw [BitVec.ofInt_natCast, BitVec.toNat_ofNat]; exact Nat.mod_eq_of_lt (by omega)
  rw [e0]
  show IntKind.i64.wrap ((BitVec.ofInt 64 ((a * 256 : Nat) : Int) ||| BitVec.ofInt 64 (b : Int)).toNat : Int) = _
  rw [BitVec.toNat_or, f _ (by omega), f _ (by omega)]
  have h := Nat.two_pow_add_eq_or_of_lt (i := 8) (b := b) (by omega) a
  have e1 : a * 256 ||| b = a * 256 + b := by
    rw [show a * 256 = 2 ^ 8 * a by omega, ← h]
  rw [e1, IntWalk.i64_in _ (by omega)]
  omega

theorem getD_eq (xs : List Int) (i : Nat) (h : i < xs.length) : xs.getD i 0 = xs[i] := by simp [List.getD, h]

theorem list_eq_of_getD (xs ys : List Int) (hl : xs.length = ys.length) (h : ∀ i, i < xs.length → xs.getD i 0 = ys.getD i 0) : xs = ys := by
  apply List.ext_getElem hl
  intro i h1 h2
  rw [← getD_eq xs i h1, ← getD_eq ys i h2]
  exact h i h1

theorem cell_lt {w : World} {p : Addr} {v : Value} (h : w.cell? p = some v) : p.block < w.heap.size := by
  rcases Nat.lt_or_ge p.block w.heap.size with hlt | hge
  · exact hlt
  · have e : w.heap[p.block]? = none := Array.getElem?_eq_none hge
    simp [World.cell?, e] at h

theorem byte_wf {z : Int} (h : (Lit.int .u8 z).wf = true) : 0 ≤ z ∧ z < 256 := by
  simp [Lit.wf] at h
  have e1 : IntKind.u8.min = 0 := by decide
  have e2 : IntKind.u8.max = 255 := by decide
  omega

theorem take_add (zs : List Int) (p m : Nat) : zs.take p ++ (zs.drop p).take m = zs.take (p + m) := by
  rw [List.take_add]

end Go.Proofs.Ytojbhckgegoldaa
