/- The project's own reader of bits (package inflate): Bit, Take, Align. -/
import Derived.Test.YtebbakfjjjamkaaDoorRef4Bits
import Derived.Test.YtebbakfjjjamkaaDoorCursor
import Derived.Deep.LoopGhost
import Derived.Deep.RegionWith
import Derived.BigCall
import Derived.BigGuard
namespace Go.Proofs.YtebbakfjjjamkaaDoor
open Go.RowKit
set_option linter.unusedVariables false
set_option maxRecDepth 100000

/-- Of what was there, blocks a and b alone may have changed. -/
structure Only2 (a b : Nat) (w w' : World) : Prop where
  os : w'.os = w.os
  tape : w'.tape = w.tape
  output : w'.output = w.output
  size : w.heap.size ≤ w'.heap.size
  block : ∀ k, k < w.heap.size → k ≠ a → k ≠ b → w'.heap[k]? = w.heap[k]?
section
variable {a b : Nat} {x y z w w' : World}
theorem Only2.refl (a b : Nat) (w : World) : Only2 a b w w := ⟨rfl, rfl, rfl, Nat.le_refl _, fun _ _ _ _ => rfl⟩
theorem Only2.trans (h : Only2 a b x y) (k : Only2 a b y z) : Only2 a b x z :=
  ⟨k.os.trans h.os, k.tape.trans h.tape, k.output.trans h.output, Nat.le_trans h.size k.size, fun i hi h1 h2 => (k.block i (Nat.lt_of_lt_of_le hi h.size) h1 h2).trans (h.block i hi h1 h2)⟩
theorem Only2.drewN (h : Only2 a b x y) (n : Nat) : Only2 a b x (y.drewN n) := ⟨h.os, h.tape, h.output, h.size, h.block⟩
theorem Only2.drew (h : Only2 a b x y) : Only2 a b x y.drew := ⟨h.os, h.tape, h.output, h.size, h.block⟩
theorem Only2.setA (h : Only2 a b x y) (i : Nat) (u : Value) : Only2 a b x (y.setCell ⟨a, i, none⟩ u) :=
  ⟨h.os, h.tape, h.output, by simpa [World.setCell] using h.size, fun k hk h1 h2 => (Below.heap_setCell y ⟨a, i, none⟩ u k h1).trans (h.block k hk h1 h2)⟩
theorem Only2.setB (h : Only2 a b x y) (i : Nat) (u : Value) : Only2 a b x (y.setCell ⟨b, i, none⟩ u) :=
  ⟨h.os, h.tape, h.output, by simpa [World.setCell] using h.size, fun k hk h1 h2 => (Below.heap_setCell y ⟨b, i, none⟩ u k h2).trans (h.block k hk h1 h2)⟩
theorem Only.o2 (h : Only b x y) (a : Nat) : Only2 a b x y := ⟨h.os, h.tape, h.output, h.size, fun k hk _ h2 => h.block k hk h2⟩
theorem Only2.of_below (h : Below x.heap.size x y) (a b : Nat) : Only2 a b x y := ⟨h.os, h.tape, h.output, h.size, fun i hi _ _ => h.block i hi⟩
theorem Only2.below {B : Nat} (h : Only2 a b x y) (ha : B ≤ a) (hb : B ≤ b) (hB : B ≤ x.heap.size) : Below B x y := ⟨h.os, h.tape, h.output, h.size, fun k hk => h.block k (Nat.lt_of_lt_of_le hk hB) (by omega) (by omega)⟩
end
theorem Byt.only2 {w w' : World} {B a b n c : Nat} {A : Option Addr} {zs : List Int} (h : Byt w B A n c zs) (ho : Only2 a b w w') (ha : B ≤ a) (hb : B ≤ b) (hB : B ≤ w.heap.size) : Byt w' B A n c zs := h.below (ho.below ha hb hB) (Nat.le_refl _)

/-- Block kb is a reader of bits over the cursor in block kc: it stands at the bit p, and the cursor at the byte q. -/
structure PQ (w : World) (kb kc : Nat) (A : Option Addr) (n c : Nat) (zs : List Int) (p q : Nat) : Prop where
  cur : Cur w kc A n c q
  bl : w.heap[kb]? = some (.cells #[.pointer (some ⟨kc, 0, none⟩), .int .i64 (bitsZ zs p (8 * q - p)), .int .i64 ((8 * q - p : Nat) : Int)] 53 (0, 0))
  ne : kb ≠ kc
  pq : p ≤ 8 * q
  qn : q ≤ n
section
variable {w w' : World} {kb kc n c p q : Nat} {A : Option Addr} {zs : List Int}
theorem PQ.lt (h : PQ w kb kc A n c zs p q) : kb < w.heap.size := by
  rcases Nat.lt_or_ge kb w.heap.size with hlt | hge
  · exact hlt
  · have := h.bl; rw [Array.getElem?_eq_none hge] at this; cases this
theorem PQ.c0 (h : PQ w kb kc A n c zs p q) : w.cell? ⟨kb, 0, none⟩ = some (.pointer (some ⟨kc, 0, none⟩)) := by rw [cell_of_row w kb 0 _ 53 (0, 0) h.bl]; rfl
theorem PQ.c1 (h : PQ w kb kc A n c zs p q) : w.cell? ⟨kb, 1, none⟩ = some (.int .i64 (bitsZ zs p (8 * q - p))) := by rw [cell_of_row w kb 1 _ 53 (0, 0) h.bl]; rfl
theorem PQ.c2 (h : PQ w kb kc A n c zs p q) : w.cell? ⟨kb, 2, none⟩ = some (.int .i64 ((8 * q - p : Nat) : Int)) := by rw [cell_of_row w kb 2 _ 53 (0, 0) h.bl]; rfl
theorem PQ.fr (h : PQ w kb kc A n c zs p q) (i : Nat) : w.frozen? ⟨kb, i, none⟩ = false := by
  have := h.bl
  simp [World.frozen?, this]
theorem PQ.drewN (h : PQ w kb kc A n c zs p q) (k : Nat) : PQ (w.drewN k) kb kc A n c zs p q := ⟨h.cur, h.bl, h.ne, h.pq, h.qn⟩
theorem PQ.below {B : Nat} (h : PQ w kb kc A n c zs p q) (hb : Below B w w') (h1 : kb < B) (h2 : kc < B) : PQ w' kb kc A n c zs p q := ⟨h.cur.below hb h2, (hb.block kb h1).trans h.bl, h.ne, h.pq, h.qn⟩
/-- Both blocks stay. -/
theorem PQ.same (h : PQ w kb kc A n c zs p q) (h1 : w'.heap[kb]? = w.heap[kb]?) (h2 : w'.heap[kc]? = w.heap[kc]?) : PQ w' kb kc A n c zs p q := ⟨h2.trans h.cur, h1.trans h.bl, h.ne, h.pq, h.qn⟩
end
theorem Byt.turn {w w' : World} {B n c : Nat} {A : Option Addr} {zs : List Int} (h : Byt w B A n c zs) (e : w'.heap = w.heap) : Byt w' B A n c zs :=
  ⟨h.len, h.cap, h.rng, fun hn => by
    obtain ⟨b, o, e1, hlt, hc⟩ := h.cell hn
    refine ⟨b, o, e1, hlt, fun i hi => ?_⟩
    rw [← hc i hi]
    exact World.cell?_of_block (by rw [e])⟩
/-- A block of three cells. -/
theorem three_c {w : World} {k : Nat} {a b c : Value} {t : TypeId} (h : w.heap[k]? = some (.cells #[a, b, c] t (0, 0))) : w.cell? ⟨k, 0, none⟩ = some a ∧ w.cell? ⟨k, 1, none⟩ = some b ∧ w.cell? ⟨k, 2, none⟩ = some c ∧ ∀ i, w.frozen? ⟨k, i, none⟩ = false :=
  ⟨by rw [cell_of_row w k 0 _ t (0, 0) h]; rfl, by rw [cell_of_row w k 1 _ t (0, 0) h]; rfl, by rw [cell_of_row w k 2 _ t (0, 0) h]; rfl, fun i => by simp [World.frozen?, h]⟩
theorem three_set {w : World} {k : Nat} {a b c : Value} {t : TypeId} (h : w.heap[k]? = some (.cells #[a, b, c] t (0, 0))) (x : Value) :
    (w.setCell ⟨k, 1, none⟩ x).heap[k]? = some (.cells #[a, x, c] t (0, 0)) ∧ (w.setCell ⟨k, 2, none⟩ x).heap[k]? = some (.cells #[a, b, x] t (0, 0)) := by
  constructor <;> simp [World.setCell, Array.getElem?_modify, h]
theorem PQ.mk2 {w : World} {kb kc n c p q : Nat} {A : Option Addr} {zs : List Int} {b c' : Value} (hc : Cur w kc A n c q) (hb : w.heap[kb]? = some (.cells #[.pointer (some ⟨kc, 0, none⟩), b, c'] 53 (0, 0))) (ne : kb ≠ kc) (pq : p ≤ 8 * q) (qn : q ≤ n)
    (x y : Int) (hx : x = bitsZ zs p (8 * q - p)) (hy : y = ((8 * q - p : Nat) : Int)) : PQ ((w.setCell ⟨kb, 1, none⟩ (.int .i64 x)).setCell ⟨kb, 2, none⟩ (.int .i64 y)) kb kc A n c zs p q := by
  subst hx hy
  refine ⟨?_, (three_set (three_set hb _).1 _).2, ne, pq, qn⟩
  exact (Below.heap_setCell _ ⟨kb, 2, none⟩ _ kc (fun e => ne e.symm)).trans ((Below.heap_setCell w ⟨kb, 1, none⟩ _ kc (fun e => ne e.symm)).trans hc)
/-- Between two calls: the cursor stands at the first whole byte that was not begun. -/
def PB (w : World) (kb kc : Nat) (A : Option Addr) (n c : Nat) (zs : List Int) (p : Nat) : Prop := PQ w kb kc A n c zs p ((p + 7) / 8)

/-- Bytes at a whole byte's place; of so many bits the first ones. -/
theorem pbits8 (zs : List Int) (k : Nat) (h : 0 ≤ zs.getD k 0 ∧ zs.getD k 0 < 256) : bitsZ zs (8 * k) 8 = zs.getD k 0 := by
  have e : ∀ i, i < 8 → bitZ zs (8 * k + i) = zs.getD k 0 / 2 ^ i % 2 := fun i hi => by
    unfold bitZ
    rw [show (8 * k + i) / 8 = k by omega, show (8 * k + i) % 8 = i by omega]
  obtain ⟨z, hz⟩ : ∃ z, zs.getD k 0 = z := ⟨_, rfl⟩
  simp only [bitsZ, e 0 (by omega), e 1 (by omega), e 2 (by omega), e 3 (by omega), e 4 (by omega), e 5 (by omega), e 6 (by omega), e 7 (by omega)]
  rw [hz] at h ⊢
  omega
theorem pbitsZ_add (zs : List Int) (p a : Nat) : ∀ b, bitsZ zs p (a + b) = bitsZ zs p a + 2 ^ a * bitsZ zs (p + a) b
  | 0 => by simp [bitsZ]
  | b + 1 => by
    rw [← Nat.add_assoc, bitsZ, pbitsZ_add zs p a b, bitsZ, Int.mul_add, Int.pow_add, Nat.add_assoc p a b, Int.add_assoc]
    congr 2
    rw [← Int.mul_assoc, ← Int.mul_assoc, Int.mul_comm (bitZ zs (p + (a + b))) (2 ^ a)]
theorem bits_byte (zs : List Int) (p q : Nat) (hpq : p ≤ 8 * q) (h : 0 ≤ zs.getD q 0 ∧ zs.getD q 0 < 256) : bitsZ zs p (8 * (q + 1) - p) = bitsZ zs p (8 * q - p) + zs.getD q 0 * 2 ^ (8 * q - p) := by
  rw [show 8 * (q + 1) - p = (8 * q - p) + 8 by omega, pbitsZ_add, show p + (8 * q - p) = 8 * q by omega, pbits8 zs q h, Int.mul_comm]
theorem bits_low (zs : List Int) (p m k : Nat) (h : m ≤ k) : bitsZ zs p k % 2 ^ m = bitsZ zs p m ∧ bitsZ zs p k / 2 ^ m = bitsZ zs (p + m) (k - m) := by
  obtain ⟨j, rfl⟩ := Nat.exists_eq_add_of_le h
  have h1 := bitsZ_bd zs p m
  have h2 : (0 : Int) < 2 ^ m := Int.pow_pos (by omega)
  rw [pbitsZ_add, Nat.add_sub_cancel_left]
  exact ⟨by rw [Int.add_mul_emod_self_left]; exact Int.emod_eq_of_lt h1.1 h1.2, by rw [Int.add_mul_ediv_left _ _ (by omega), Int.ediv_eq_zero_of_lt h1.1 h1.2, Int.zero_add]⟩
theorem or_over (v x : Int) (i : Nat) (hi : i ≤ 24) (v0 : 0 ≤ v) (v1 : v < 2 ^ i) (x0 : 0 ≤ x) (x1 : x < 256) : bits .or .i64 v (x * 2 ^ i) = v + x * 2 ^ i := by
  obtain ⟨a, rfl⟩ : ∃ a : Nat, v = a := ⟨v.toNat, by omega⟩
  obtain ⟨y, rfl⟩ : ∃ y : Nat, x = y := ⟨x.toNat, by omega⟩
  have e : ((2 ^ i : Nat) : Int) = (2 : Int) ^ i := by rw [Int.natCast_pow]; rfl
  have e0 : (y : Int) * 2 ^ i = ((2 ^ i * y : Nat) : Int) := by rw [← e, ← Int.natCast_mul, Nat.mul_comm]
  have ha : a < 2 ^ i := by rw [← e] at v1; exact Int.ofNat_lt.1 v1
  have h24 : 2 ^ i ≤ 2 ^ 24 := Nat.pow_le_pow_right (by omega) hi
  have hb : 2 ^ i * y ≤ 2 ^ 24 * 256 := Nat.mul_le_mul h24 (by omega)
  have f : ∀ x : Nat, x < 9223372036854775808 → (BitVec.ofInt 64 (x : Int)).toNat = x := fun x hx => by
    rw [BitVec.ofInt_natCast, BitVec.toNat_ofNat]; exact Nat.mod_eq_of_lt (by omega)
  rw [e0]
  show IntKind.i64.wrap ((BitVec.ofInt 64 (a : Int) ||| BitVec.ofInt 64 ((2 ^ i * y : Nat) : Int)).toNat : Int) = _
  rw [BitVec.toNat_or, f _ (by omega), f _ (by omega), Nat.or_comm]
  have h := Nat.two_pow_add_eq_or_of_lt ha y
  rw [← h, IntWalk.i64_in _ (by omega)]
  omega
theorem and_low (v : Int) (m : Nat) (hm : m ≤ 30) (v0 : 0 ≤ v) (v1 : v < 4294967296) : bits .and .i64 v (2 ^ m - 1) = v % 2 ^ m := by
  obtain ⟨a, rfl⟩ : ∃ a : Nat, v = a := ⟨v.toNat, by omega⟩
  have e : ((2 ^ m : Nat) : Int) = (2 : Int) ^ m := by rw [Int.natCast_pow]; rfl
  have hp : 0 < 2 ^ m := Nat.two_pow_pos m
  have h30 : 2 ^ m ≤ 2 ^ 30 := Nat.pow_le_pow_right (by omega) hm
  have e0 : (2 : Int) ^ m - 1 = ((2 ^ m - 1 : Nat) : Int) := by rw [← e]; omega
  have f : ∀ x : Nat, x < 9223372036854775808 → (BitVec.ofInt 64 (x : Int)).toNat = x := fun x hx => by
    rw [BitVec.ofInt_natCast, BitVec.toNat_ofNat]; exact Nat.mod_eq_of_lt (by omega)
  rw [e0]
  show IntKind.i64.wrap ((BitVec.ofInt 64 (a : Int) &&& BitVec.ofInt 64 ((2 ^ m - 1 : Nat) : Int)).toNat : Int) = _
  rw [BitVec.toNat_and, f _ (by omega), f _ (by omega), Nat.and_two_pow_sub_one_eq_mod, ← e, ← Int.natCast_emod]
  have : a % 2 ^ m < 2 ^ m := Nat.mod_lt _ hp
  exact IntWalk.i64_in _ (by omega)

set_option maxHeartbeats 1000000 in
theorem ptake_no (kb kc n c p : Nat) (m : Int) (A : Option Addr) (zs : List Int) (w : World) (h : PB w kb kc A n c zs p) (hn : n ≤ 1000000) (hm : m < 0 ∨ 16 < m ∨ 8 * (n : Int) - p < m) :
    Calls Tryd.prog 46 #[.pointer (some ⟨kb, 0, none⟩), .int .i64 m] w fun r w' => r = .returned (.int .i64 (-1)) ∧ ∃ k, w' = w.drewN k := by
  have hpq := h.pq
  have hqn := h.qn
  obtain ⟨q, hq⟩ : ∃ q, (p + 7) / 8 = q := ⟨_, rfl⟩
  unfold PB at h
  rw [hq] at h hpq hqn
  have h0 := h.c0
  have h2 := h.c2
  obtain ⟨k, hk⟩ : ∃ k, 8 * q - p = k := ⟨_, rfl⟩
  rw [hk] at h2
  have HL := Lib.hid (fun i => left_any kc n c q A (w.drewN i) (h.cur.drewN i) hqn (by omega))
  by_cases h1 : m < 0
  · have d1 : decide (m < 0) = true := decide_eq_true h1
    clear h hm
    go_enter Tryd.func46, Tryd.ntmps46
    go_wp2_with fail
    go_quiet ((go_at_call 36; exact quietL (HL.out _)))
    go_wp2_with fail
    go_ret
    exact ⟨rfl, _, rfl⟩
  have d1 : decide (m < 0) = false := decide_eq_false h1
  by_cases h2b : 16 < m
  · have d2 : decide (16 < m) = true := decide_eq_true h2b
    clear h hm
    go_enter Tryd.func46, Tryd.ntmps46
    go_wp2_with fail
    go_quiet ((go_at_call 36; exact quietL (HL.out _)))
    go_wp2_with fail
    go_ret
    exact ⟨rfl, _, rfl⟩
  have d2 : decide (16 < m) = false := decide_eq_false h2b
  have e1 : IntKind.i64.wrap (8 * ((n : Int) - q)) = 8 * ((n : Int) - q) := IntWalk.i64_in _ (by omega)
  have e2 : IntKind.i64.wrap ((k : Int) + 8 * ((n : Int) - q)) = (k : Int) + 8 * ((n : Int) - q) := IntWalk.i64_in _ (by omega)
  have d3 : decide ((k : Int) + 8 * ((n : Int) - q) < m) = true := decide_eq_true (by omega)
  clear h hm
  go_enter Tryd.func46, Tryd.ntmps46
  go_wp2_with fail
  go_quiet ((go_at_call 36; exact quietL (HL.out _)))
  go_wp2_with fail
  go_ret
  exact ⟨rfl, _, rfl⟩

set_option maxHeartbeats 2000000 in
theorem ptake_ok (kb kc n c p m B : Nat) (A : Option Addr) (zs : List Int) (w : World) (h : PB w kb kc A n c zs p) (hb : Byt w B A n c zs) (hB : B ≤ kb) (hC : B ≤ kc) (hn : n ≤ 1000000) (hm : m ≤ 16) (hp : p + m ≤ 8 * n) :
    Calls Tryd.prog 46 #[.pointer (some ⟨kb, 0, none⟩), .int .i64 m] w fun r w' => r = .returned (.int .i64 (bitsZ zs p m)) ∧ PB w' kb kc A n c zs (p + m) ∧ Only2 kb kc w w' := by
  have hpq := h.pq
  have hqn := h.qn
  obtain ⟨q, hq⟩ : ∃ q, (p + 7) / 8 = q := ⟨_, rfl⟩
  unfold PB at h
  rw [hq] at h hpq hqn
  have h0 := h.c0
  have h2 := h.c2
  have H := Lib.hid h
  have HB := Lib.hid hb
  have HL := Lib.hid (fun i => left_any kc n c q A (w.drewN i) (h.cur.drewN i) hqn (by omega))
  have HQ : Hid (8 * q < p + m + 8) := Lib.hid (by omega)
  obtain ⟨k, hk⟩ : ∃ k, 8 * q - p = k := ⟨_, rfl⟩
  rw [hk] at h2
  have d1 : decide ((m : Int) < 0) = false := decide_eq_false (by omega)
  have d2 : decide (16 < (m : Int)) = false := decide_eq_false (by omega)
  have e1 : IntKind.i64.wrap (8 * ((n : Int) - q)) = 8 * ((n : Int) - q) := IntWalk.i64_in _ (by omega)
  have e2 : IntKind.i64.wrap ((k : Int) + 8 * ((n : Int) - q)) = (k : Int) + 8 * ((n : Int) - q) := IntWalk.i64_in _ (by omega)
  have d3 : decide ((k : Int) + 8 * ((n : Int) - q) < m) = false := decide_eq_false (by omega)
  clear h hb hk
  go_enter Tryd.func46, Tryd.ntmps46
  go_wp2_with fail
  go_quiet ((go_at_call 36; exact quietL (HL.out _)))
  go_wp2_with fail
  clear e1 e2 d1 d2 d3 h0 h2
  go_loopg [] (m + 8) (fun g wr => ∃ r : Nat, q ≤ r ∧ Hid (8 * r < p + m + 8 ∧ p + m + 8 ≤ 8 * r + g) ∧ Hid (PQ wr kb kc A n c zs p r) ∧ Hid (Only2 kb kc w wr))
  case atStart => exact ⟨q, Nat.le_refl _, Lib.hid ⟨HQ.out, by omega⟩, H.drewN _, Lib.hid ((Only2.refl _ _ _).drewN _)⟩
  case round =>
    obtain ⟨r, hqr, HR, HP, HO⟩ := hrel
    have h0 := HP.out.c0
    have h1 := HP.out.c1
    have h2 := HP.out.c2
    have hpq := HP.out.pq
    have hqn := HP.out.qn
    obtain ⟨hr1, hr2⟩ := HR.out
    have hj : ((8 * r - p : Nat) : Int) = 8 * (r : Int) - p := by omega
    obtain ⟨j, hjj⟩ : ∃ j, 8 * r - p = j := ⟨_, rfl⟩
    have HJ := Lib.hid hjj
    rw [hjj] at h1 h2
    have hvb := bitsZ_bd zs p j
    have hby := HB.out.only2 HO.out hB hC (by have := H.out.lt; omega)
    by_cases hlt : j < m
    · have hrn : r < n := by omega
      have hz := HB.out.getD r
      have hpk := peekZ_in zs r (by rw [HB.out.len]; exact hrn)
      have hst := bits_byte zs p r hpq hz
      rw [hjj] at hst
      have hnx := fun W (e : W.heap = wr.heap) => next_in kc n c r B A zs W (show W.heap[kc]? = _ by rw [e]; exact HP.out.cur) (hby.turn e) hrn hn
      rw [hpk] at hnx
      obtain ⟨z, hzz⟩ : ∃ z, zs.getD r 0 = z := ⟨_, rfl⟩
      obtain ⟨v, hvv⟩ : ∃ v, bitsZ zs p j = v := ⟨_, rfl⟩
      rw [hzz] at hz hst hnx
      rw [hvv] at hst hvb h1
      have h2p : (1 : Int) ≤ 2 ^ j ∧ (2 : Int) ^ j ≤ 65536 := pow_le16 j (by omega)
      have e5 : bits .or .i64 v (z * 2 ^ j) = v + z * 2 ^ j := or_over v z j (by omega) hvb.1 hvb.2 hz.1 hz.2
      have hzp : 0 ≤ z * 2 ^ j ∧ z * 2 ^ j ≤ 255 * 65536 := ⟨Int.mul_nonneg hz.1 (by omega), Int.mul_le_mul (by omega) h2p.2 (by omega) (by omega)⟩
      have e4 : IntKind.i64.wrap (z * 2 ^ j) = z * 2 ^ j := IntWalk.i64_in _ (by omega)
      have hj16 : (j : Int) < 16 := by omega
      have HV := Lib.hid hvv
      have HNX := Lib.hid hnx
      have HST := Lib.hid hst
      have hjm : (j : Int) < m := by omega
      clear hzz hvv hst hnx hz hvb h2p hzp hpk hby hjj hj
      go_wp2_with fail
      go_region_with (go_at_call 37; refine (HNX.out _ (by rfl)).mono ?_; rintro e w2 ⟨rfl, hc2, ho2⟩; have hbl2 := (ho2.block kb HP.out.lt HP.out.ne).trans HP.out.bl; have k1 := (three_c hbl2).2.1; have k2 := (three_c hbl2).2.2.1; have kf := (three_c hbl2).2.2.2; rw [HJ.out] at k1 k2; rw [HV.out] at k1; have HBL2 := Lib.hid hbl2; have HC2 := Lib.hid hc2; have HO2 := Lib.hid (HO.out.drew.trans (ho2.o2 kb)); clear hbl2 hc2 ho2)
      all_goals
        go_wp2_with fail
        go_roundg (gk - 8)
        case measure => omega
        case rel => have hj := HJ.out; exact ⟨r + 1, by omega, Lib.hid (by omega), Lib.hid (PQ.mk2 HC2.out HBL2.out HP.out.ne (by omega) hrn _ _ HST.out.symm (by omega)), Lib.hid ((HO2.out.setA _ _).setA _ _)⟩
    · have hlow := bits_low zs p m j (by omega)
      have hvb2 : bitsZ zs p j < 4294967296 := by
        have h1 : j ≤ 24 := by omega
        have h2 : 2 ^ j ≤ 2 ^ 24 := Nat.pow_le_pow_right (by omega) h1
        have e : ((2 ^ j : Nat) : Int) = (2 : Int) ^ j := by rw [Int.natCast_pow]; rfl
        omega
      have hand := and_low (bitsZ zs p j) m (by omega) hvb.1 hvb2
      rw [hlow.1] at hand
      have hsh := hlow.2
      have h2p := pow_le16 m hm
      obtain ⟨v, hvv⟩ : ∃ v, bitsZ zs p j = v := ⟨_, rfl⟩
      rw [hvv] at hand hsh h1
      have hjm : ¬ (j : Int) < m := by omega
      have e1 : IntKind.i64.wrap ((2 : Int) ^ m) = 2 ^ m := IntWalk.i64_in _ (by omega)
      have e2 : IntKind.i64.wrap ((2 : Int) ^ m - 1) = 2 ^ m - 1 := IntWalk.i64_in _ (by omega)
      have e3 : IntKind.i64.wrap ((j : Int) - m) = (j : Int) - m := IntWalk.i64_in _ (by omega)
      have HSH := Lib.hid hsh
      have HAND := Lib.hid hand
      have HF := Lib.hid HP.out.fr
      have hm16 : (m : Int) < 17 := by omega
      have hbl := HP.out.bl
      have kf := (three_c hbl).2.2.2
      clear hvv hand hlow hsh hvb hvb2 h2p hby hjj hj hbl
      have hand := HAND.out
      go_wp2_with fail
      go_quiet (fail)
      go_wp2_with fail
      go_ret
      have hj := HJ.out
      refine ⟨rfl, ?_, (((HO.out.drewN _).setA _ _).setA _ _)⟩
      unfold PB
      rw [show (p + m + 7) / 8 = r by omega]
      refine PQ.mk2 (zs := zs) (p := p + m) (q := r) (HP.out.drewN _).cur (HP.out.drewN _).bl HP.out.ne (by omega) HP.out.qn _ _ ?_ ?_
      · rw [HSH.out]; congr 1; omega
      · omega

/-- What Take answers. -/
def ptakeV (zs : List Int) (p : Nat) (m : Int) : Int := if 0 ≤ m ∧ m ≤ 16 ∧ (p : Int) + m ≤ 8 * zs.length then bitsZ zs p m.toNat else -1
/-- Where the reader stands behind it. -/
def ptakeP (zs : List Int) (p : Nat) (m : Int) : Nat := if 0 ≤ m ∧ m ≤ 16 ∧ (p : Int) + m ≤ 8 * zs.length then p + m.toNat else p
theorem ptakeC (kb kc n c p B : Nat) (m : Int) (A : Option Addr) (zs : List Int) (w : World) (h : PB w kb kc A n c zs p) (hb : Byt w B A n c zs) (hB : B ≤ kb) (hC : B ≤ kc) (hn : n ≤ 1000000) :
    Calls Tryd.prog 46 #[.pointer (some ⟨kb, 0, none⟩), .int .i64 m] w fun r w' => r = .returned (.int .i64 (ptakeV zs p m)) ∧ PB w' kb kc A n c zs (ptakeP zs p m) ∧ Only2 kb kc w w' := by
  unfold ptakeV ptakeP
  rw [hb.len]
  by_cases hm : 0 ≤ m ∧ m ≤ 16 ∧ (p : Int) + m ≤ 8 * n
  · rw [if_pos hm, if_pos hm]
    obtain ⟨k, rfl⟩ : ∃ k : Nat, m = k := ⟨m.toNat, by omega⟩
    exact ptake_ok kb kc n c p k B A zs w h hb hB hC hn (by omega) (by omega)
  · rw [if_neg hm, if_neg hm]
    refine (ptake_no kb kc n c p m A zs w h hn ?_).mono fun r w' ⟨hr, k, hw⟩ => ⟨hr, by rw [hw]; exact h.drewN k, by rw [hw]; exact (Only2.refl _ _ _).drewN k⟩
    by_cases h1 : m < 0
    · exact .inl h1
    · by_cases h2 : 16 < m
      · exact .inr (.inl h2)
      · exact .inr (.inr (by omega))
theorem pbitC (kb kc n c p B : Nat) (A : Option Addr) (zs : List Int) (w : World) (h : PB w kb kc A n c zs p) (hb : Byt w B A n c zs) (hB : B ≤ kb) (hC : B ≤ kc) (hn : n ≤ 1000000) :
    Calls Tryd.prog 26 #[.pointer (some ⟨kb, 0, none⟩)] w fun r w' => r = .returned (.int .i64 (ptakeV zs p 1)) ∧ PB w' kb kc A n c zs (ptakeP zs p 1) ∧ Only2 kb kc w w' := by
  have HT := Lib.hid (ptakeC kb kc n c p B 1 A zs w h hb hB hC hn)
  obtain ⟨v, hv⟩ : ∃ v, ptakeV zs p 1 = v := ⟨_, rfl⟩
  obtain ⟨p2, hp2⟩ : ∃ p2, ptakeP zs p 1 = p2 := ⟨_, rfl⟩
  rw [hv, hp2] at HT ⊢
  clear h hb hv hp2
  go_enter Tryd.func26, Tryd.ntmps26
  go_wp2_with (go_at_call 46; refine HT.out.mono ?_; rintro e w2 ⟨rfl, hb2, ho2⟩; have HB2 := Lib.hid hb2; have HO2 := Lib.hid ho2; clear hb2 ho2)
  go_ret
  exact ⟨rfl, HB2.out, HO2.out⟩
def palgn (p : Nat) : Nat := (p + 7) / 8 * 8
theorem palignC (kb kc n c p : Nat) (A : Option Addr) (zs : List Int) (w : World) (h : PB w kb kc A n c zs p) :
    Calls Tryd.prog 58 #[.pointer (some ⟨kb, 0, none⟩)] w fun r w' => r = .returned (.tuple #[]) ∧ PB w' kb kc A n c zs (palgn p) ∧ Only2 kb kc w w' := by
  have H := Lib.hid h
  have kf := h.fr
  have k1 := h.c1
  have k2 := h.c2
  clear h
  go_enter Tryd.func58, Tryd.ntmps58
  go_wp2
  (try simp only [Exit.inBlock, Exit.then])
  refine ⟨rfl, _, results_none rfl _ _ _, ?_⟩
  refine ⟨rfl, ?_, ((Only2.refl _ _ _).setA _ _).setA _ _⟩
  unfold PB palgn
  have hq : ((p + 7) / 8 * 8 + 7) / 8 = (p + 7) / 8 := by omega
  rw [hq]
  have e0 : 8 * ((p + 7) / 8) - (p + 7) / 8 * 8 = 0 := by omega
  refine PQ.mk2 (zs := zs) (p := (p + 7) / 8 * 8) (q := (p + 7) / 8) H.out.cur H.out.bl H.out.ne (by omega) H.out.qn _ _ ?_ ?_
  · rw [e0]; rfl
  · rw [e0]; rfl
theorem popenC (A : Option Addr) (n c : Nat) (zs : List Int) (w : World) :
    Calls Tryd.prog 25 #[.slice A n c] w fun r w' => r = .returned (.pointer (some ⟨w.heap.size + 1, 0, none⟩)) ∧ PB w' (w.heap.size + 1) w.heap.size A n c zs 0 ∧ Below w.heap.size w w' ∧ w'.heap.size = w.heap.size + 2 := by
  have HN := Lib.hid (new_any A n c w)
  go_enter Tryd.func25, Tryd.ntmps25
  go_wp2_with (go_at_call 15; refine HN.out.mono ?_; rintro e w2 ⟨rfl, hw2⟩; have HW := Lib.hid hw2; have hs : w2.heap.size = w.heap.size + 1 := (by rw [hw2]; simp); clear hw2)
  go_ret
  have hb2 : Below w.heap.size w w2 := by rw [HW.out]; exact (Below.refl _ _).alloc (Nat.le_refl _) _
  have hc2 : Cur w2 w.heap.size A n c 0 := by rw [HW.out]; exact Cur.new w
  have hb3 := hb2.alloc (Nat.le_of_lt (by rw [hs]; exact Nat.lt_succ_self _)) (.cells #[.pointer (some ⟨w.heap.size, 0, none⟩), .int .i64 0, .int .i64 0] 53)
  refine ⟨rfl, ⟨?_, ?_, by omega, Nat.le_refl _, Nat.zero_le _⟩, hb3, by simp [hs]⟩
  · exact hc2.below ((Below.refl w2.heap.size w2).alloc (Nat.le_refl _) _) (by omega)
  · have h := heap_alloc_new w2 (.cells #[.pointer (some ⟨w.heap.size, 0, none⟩), .int .i64 0, .int .i64 0] 53)
    rw [hs] at h
    exact h
end Go.Proofs.YtebbakfjjjamkaaDoor
