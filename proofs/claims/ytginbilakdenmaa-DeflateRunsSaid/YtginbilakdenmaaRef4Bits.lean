/- The document's own reader of bits (chapter 4): fail, take. -/
import Derived.Test.YtginbilakdenmaaBytes
import Derived.Outline
import Derived.LoopTactic
import Derived.Deep.QuietTactic
import Derived.BigQuiet
namespace Go.Proofs.Ytginbilakdenmaa
open Go.RowKit
set_option linter.unusedVariables false
set_option maxRecDepth 100000

/-- Block g is a reader of the bits of '.slice A n c', at the bit p, with the error e. -/
def BS (w : World) (g : Nat) (A : Option Addr) (n c p : Nat) (e : Int) : Prop := w.heap[g]? = some (.cells #[.slice A n c, .int .i64 p, .int .i64 e] 75 (0, 0))
section
variable {w w' : World} {g n c p : Nat} {e : Int} {A : Option Addr}
theorem BS.lt (h : BS w g A n c p e) : g < w.heap.size := by
  rcases Nat.lt_or_ge g w.heap.size with hlt | hge
  · exact hlt
  · unfold BS at h; rw [Array.getElem?_eq_none hge] at h; cases h
theorem BS.c0 (h : BS w g A n c p e) : w.cell? ⟨g, 0, none⟩ = some (.slice A n c) := by rw [cell_of_row w g 0 _ 75 (0, 0) h]; rfl
theorem BS.c1 (h : BS w g A n c p e) : w.cell? ⟨g, 1, none⟩ = some (.int .i64 p) := by rw [cell_of_row w g 1 _ 75 (0, 0) h]; rfl
theorem BS.c2 (h : BS w g A n c p e) : w.cell? ⟨g, 2, none⟩ = some (.int .i64 e) := by rw [cell_of_row w g 2 _ 75 (0, 0) h]; rfl
theorem BS.fr (h : BS w g A n c p e) (i : Nat) : w.frozen? ⟨g, i, none⟩ = false := by
  unfold BS at h
  simp [World.frozen?, h]
theorem BS.drewN (h : BS w g A n c p e) (k : Nat) : BS (w.drewN k) g A n c p e := h
theorem BS.below {B : Nat} (h : BS w g A n c p e) (hb : Below B w w') (hg : g < B) : BS w' g A n c p e := (hb.block g hg).trans h
theorem BS.seek (h : BS w g A n c p e) (q : Nat) (z : Int) (hz : z = q) : BS (w.setCell ⟨g, 1, none⟩ (.int .i64 z)) g A n c q e := by
  subst hz
  unfold BS at h ⊢
  simp [World.setCell, Array.getElem?_modify, h]
theorem BS.bad (h : BS w g A n c p e) (e' : Int) : BS (w.setCell ⟨g, 2, none⟩ (.int .i64 e')) g A n c p e' := by
  unfold BS at h ⊢
  simp [World.setCell, Array.getElem?_modify, h]
end

theorem failC (g n c p : Nat) (e x : Int) (A : Option Addr) (w : World) (h : BS w g A n c p e) :
    Calls Try.prog 48 #[.pointer (some ⟨g, 0, none⟩), .int .i64 x] w fun r w' => r = .returned (.tuple #[]) ∧ BS w' g A n c p (if e = 0 then x else e) ∧ Only g w w' := by
  have h2 := h.c2
  have hf := h.fr 2
  have H := Lib.hid h
  clear h
  by_cases he : e = 0
  · have hz : (e == 0) = true := beq_iff_eq.2 he
    rw [if_pos he]
    clear he
    go_enter Try.func48, Try.ntmps48
    go_wp2
    (try simp only [Exit.inBlock, Exit.then])
    refine ⟨rfl, _, results_none rfl _ _ _, ?_⟩
    exact ⟨rfl, H.out.bad x, (Only.refl _ _).set_ _ _⟩
  · have hz : (e == 0) = false := beq_eq_false_iff_ne.2 he
    rw [if_neg he]
    clear he
    go_enter Try.func48, Try.ntmps48
    go_wp2
    (try simp only [Exit.inBlock, Exit.then])
    refine ⟨rfl, _, results_none rfl _ _ _, ?_⟩
    exact ⟨rfl, H.out, Only.refl _ _⟩

theorem fail_first (g n c p : Nat) (x : Int) (A : Option Addr) (w : World) (h : BS w g A n c p 0) :
    Calls Try.prog 48 #[.pointer (some ⟨g, 0, none⟩), .int .i64 x] w fun r w' => r = .returned (.tuple #[]) ∧ BS w' g A n c p x ∧ Only g w w' :=
  (failC g n c p 0 x A w h).mono fun r w' ⟨hr, hb, ho⟩ => ⟨hr, by rw [if_pos rfl] at hb; exact hb, ho⟩
/-- The bit at a place; so many bits, the first the lowest. -/
def bitZ (zs : List Int) (p : Nat) : Int := zs.getD (p / 8) 0 / 2 ^ (p % 8) % 2
def bitsZ (zs : List Int) (p : Nat) : Nat → Int
  | 0 => 0
  | i + 1 => bitsZ zs p i + bitZ zs (p + i) * 2 ^ i
theorem bitZ_bd (zs : List Int) (p : Nat) : 0 ≤ bitZ zs p ∧ bitZ zs p ≤ 1 := by unfold bitZ; omega
theorem bitsZ_bd (zs : List Int) (p : Nat) : ∀ i, 0 ≤ bitsZ zs p i ∧ bitsZ zs p i < 2 ^ i
  | 0 => by simp [bitsZ]
  | i + 1 => by
    have h1 := bitsZ_bd zs p i
    have h2 := bitZ_bd zs (p + i)
    have e : (2 : Int) ^ (i + 1) = 2 ^ i * 2 := Int.pow_succ 2 i
    rw [bitsZ, e]
    rcases (show bitZ zs (p + i) = 0 ∨ bitZ zs (p + i) = 1 by omega) with h | h
    · rw [h]; omega
    · rw [h]; omega
theorem pow_le16 (i : Nat) (h : i ≤ 16) : (1 : Int) ≤ 2 ^ i ∧ (2 : Int) ^ i ≤ 65536 := by
  have h1 : 2 ^ i ≤ 2 ^ 16 := Nat.pow_le_pow_right (by omega) h
  have h2 : 0 < 2 ^ i := Nat.two_pow_pos i
  have e : ((2 ^ i : Nat) : Int) = (2 : Int) ^ i := by rw [Int.natCast_pow]; rfl
  omega
theorem or_bit (v x : Int) (i : Nat) (hi : i ≤ 16) (v0 : 0 ≤ v) (v1 : v < 2 ^ i) (x0 : 0 ≤ x) (x1 : x ≤ 1) : bits .or .i64 v (x * 2 ^ i) = v + x * 2 ^ i := by
  obtain ⟨a, rfl⟩ : ∃ a : Nat, v = a := ⟨v.toNat, by omega⟩
  obtain ⟨y, rfl⟩ : ∃ y : Nat, x = y := ⟨x.toNat, by omega⟩
  have hp := pow_le16 i hi
  have e : ((2 ^ i : Nat) : Int) = (2 : Int) ^ i := by rw [Int.natCast_pow]; rfl
  have e0 : (y : Int) * 2 ^ i = ((2 ^ i * y : Nat) : Int) := by rw [← e, ← Int.natCast_mul, Nat.mul_comm]
  have ha : a < 2 ^ i := by rw [← e] at v1; exact Int.ofNat_lt.1 v1
  have hb : 2 ^ i * y ≤ 65536 := by
    have h1 : 2 ^ i ≤ 2 ^ 16 := Nat.pow_le_pow_right (by omega) hi
    rcases (show y = 0 ∨ y = 1 by omega) with h | h
    · rw [h]; omega
    · rw [h]; omega
  have ha2 : a < 65537 := by have h1 : 2 ^ i ≤ 2 ^ 16 := Nat.pow_le_pow_right (by omega) hi; omega
  have f : ∀ x : Nat, x < 9223372036854775808 → (BitVec.ofInt 64 (x : Int)).toNat = x := fun x hx => by
    rw [BitVec.ofInt_natCast, BitVec.toNat_ofNat]; exact Nat.mod_eq_of_lt (by omega)
  rw [e0]
  show IntKind.i64.wrap ((BitVec.ofInt 64 (a : Int) ||| BitVec.ofInt 64 ((2 ^ i * y : Nat) : Int)).toNat : Int) = _
  rw [BitVec.toNat_or, f _ (by omega), f _ (by omega), Nat.or_comm]
  have h := Nat.two_pow_add_eq_or_of_lt ha y
  rw [← h, IntWalk.i64_in _ (by omega)]
  omega
theorem and_bit (z : Int) (z0 : 0 ≤ z) (z1 : z < 256) : bits .and .u8 z 1 = z % 2 := by
  obtain ⟨a, rfl⟩ : ∃ a : Nat, z = a := ⟨z.toNat, by omega⟩
  have key : ∀ a : Fin 256, bits .and .u8 ((a.val : Nat) : Int) 1 = ((a.val : Nat) : Int) % 2 := by decide +kernel
  exact key ⟨a, by omega⟩

set_option maxRecDepth 100000 in
theorem take_ok (g n c p B m : Nat) (A : Option Addr) (zs : List Int) (w : World) (h : BS w g A n c p 0) (hb : Byt w B A n c zs) (hB : B ≤ g) (hn : n ≤ 100000000) (hm : m ≤ 16) (hp : p + m ≤ 8 * n) :
    Calls Try.prog 44 #[.pointer (some ⟨g, 0, none⟩), .int .i64 m] w fun r w' => r = .returned (.int .i64 (bitsZ zs p m)) ∧ BS w' g A n c (p + m) 0 ∧ Only g w w' := by
  have H := Lib.hid h
  have HB := Lib.hid hb
  have HBG := Lib.hid hB
  have h0 := h.c0
  have h1 := h.c1
  have h2 := h.c2
  have hd : ¬ ((8 : Int) * n - p < m) := by omega
  clear h hb hB
  go_enter Try.func44, Try.ntmps44
  go_wp2_with fail
  go_quiet (fail)
  go_wp2_with fail
  go_loopw [5, 6] (fun v i wr => ∃ k : Nat, k ≤ m ∧ i = .int .i64 k ∧ v = .int .i64 (bitsZ zs p k) ∧ Hid (BS wr g A n c (p + k) 0) ∧ Hid (Only g w wr)) (fun _ i _ => m - (intOf i).toNat)
  case atStart => exact ⟨0, Nat.zero_le _, rfl, rfl, H.out.drewN _, (Only.refl _ _).drewN _⟩
  case round =>
    obtain ⟨k, hk, rfl, rfl, hbs, hon⟩ := hrel
    by_cases hlt : k < m
    · have hby := HB.out.only hon.out HBG.out (Nat.le_of_lt H.out.lt)
      obtain ⟨b, o, rfl, _, hc⟩ := hby.cell (by omega)
      obtain ⟨q, hq⟩ : ∃ q, (p + k) / 8 = q := ⟨_, rfl⟩
      obtain ⟨r, hr⟩ : ∃ r, (p + k) % 8 = r := ⟨_, rfl⟩
      have hqn : q < n := by omega
      have ck := hc q hqn
      have hgz := HB.out.getD q
      have hbt : bitZ zs (p + k) = zs.getD q 0 / 2 ^ r % 2 := by unfold bitZ; rw [hq, hr]
      obtain ⟨z, hz⟩ : ∃ z, zs.getD q 0 = z := ⟨_, rfl⟩
      rw [hz] at ck hgz hbt
      obtain ⟨z0, z1⟩ := hgz
      have hstep : bitsZ zs p (k + 1) = bitsZ zs p k + bitZ zs (p + k) * 2 ^ k := rfl
      have hvb := bitsZ_bd zs p k
      have hxb := bitZ_bd zs (p + k)
      have hp16 := pow_le16 k (by omega)
      obtain ⟨v, hv⟩ : ∃ v, bitsZ zs p k = v := ⟨_, rfl⟩
      obtain ⟨x, hx⟩ : ∃ x, bitZ zs (p + k) = x := ⟨_, rfl⟩
      rw [hx] at hbt hstep hxb
      rw [hv] at hstep hvb ⊢
      have hdz : 0 ≤ z / 2 ^ r ∧ z / 2 ^ r < 256 := by
        have h2 : (0 : Int) < 2 ^ r := Int.pow_pos (by omega)
        refine ⟨Int.ediv_nonneg z0 (Int.le_of_lt h2), ?_⟩
        have h3 : z / 2 ^ r ≤ z := Int.ediv_le_self _ z0
        omega
      have e1 : ((p : Int) + k) / 8 = q := by omega
      have e2 : ((p : Int) + k) % 8 = r := by omega
      have e3 : bits .and .u8 (z / 2 ^ r) 1 = x := by rw [and_bit _ hdz.1 hdz.2]; exact hbt.symm
      have hxy : x * 2 ^ k ≤ 65536 ∧ 0 ≤ x * 2 ^ k := by
        rcases (show x = 0 ∨ x = 1 by omega) with h | h
        · rw [h]; omega
        · rw [h]; omega
      have e4 : IntKind.i64.wrap (x * 2 ^ k) = x * 2 ^ k := IntWalk.i64_in _ (by omega)
      have e5 : bits .or .i64 v (x * 2 ^ k) = v + x * 2 ^ k := or_bit v x k (by omega) hvb.1 hvb.2 hxb.1 hxb.2
      have h0 := hbs.out.c0
      have h1 := hbs.out.c1
      have hf := hbs.out.fr 1
      rw [Int.natCast_add] at h1
      have HST := Lib.hid hstep
      have HBS := Lib.hid hbs.out
      have HON := Lib.hid hon.out
      have hpk : (p : Int) + k ≤ 800000000 := by omega
      have hr8 : (r : Int) < 8 := by omega
      have hk16 : (k : Int) < 16 := by omega
      clear hby hc hbt hz hv hx hstep hbs hon hq hr hvb hxy hp16
      go_wp2_with fail
      go_quiet (fail)
      go_wp2_with fail
      go_roundw
      case rel => exact ⟨k + 1, by omega, by go_num, by rw [HST.out], Lib.hid ((HBS.out.drewN _).seek (p + (k + 1)) _ (by omega)), Lib.hid ((HON.out.drewN _).set_ _ _)⟩
      case measure => simp [intOf]; omega
    · obtain rfl : k = m := by omega
      have HBS := Lib.hid hbs.out
      have HON := Lib.hid hon.out
      clear hbs hon
      go_wp2
      go_ret
      exact ⟨rfl, HBS.out, HON.out⟩

/-- What take answers, where the reader stands then, and its error. -/
def takeS (zs : List Int) (p : Nat) (e : Int) (m : Nat) : Int × Nat × Int := if e = 0 then (if p + m ≤ 8 * zs.length then (bitsZ zs p m, p + m, 0) else (0, p, 2)) else (0, p, e)
set_option maxRecDepth 100000 in
theorem takeC (g n c p B m : Nat) (e : Int) (A : Option Addr) (zs : List Int) (w : World) (h : BS w g A n c p e) (hb : Byt w B A n c zs) (hB : B ≤ g) (hn : n ≤ 100000000) (hm : m ≤ 16) (hp : p ≤ 8 * n) (v : Int) (p' : Nat) (e' : Int) (hs : takeS zs p e m = (v, p', e')) :
    Calls Try.prog 44 #[.pointer (some ⟨g, 0, none⟩), .int .i64 m] w fun r w' => r = .returned (.int .i64 v) ∧ BS w' g A n c p' e' ∧ Only g w w' := by
  unfold takeS at hs
  rw [hb.len] at hs
  by_cases he : e = 0
  · subst he
    rw [if_pos rfl] at hs
    by_cases hlt : p + m ≤ 8 * n
    · rw [if_pos hlt] at hs
      cases hs
      exact take_ok g n c p B m A zs w h hb hB hn hm hlt
    · rw [if_neg hlt] at hs
      cases hs
      have H := Lib.hid h
      have h0 := h.c0
      have h1 := h.c1
      have h2 := h.c2
      have HF := Lib.hid (fun W (hW : BS W g A n c p 0) => fail_first g n c p 2 A W hW)
      have hd : (8 : Int) * n - p < m := by omega
      clear h hb
      go_enter Try.func44, Try.ntmps44
      go_wp2_with fail
      go_quiet (fail)
      go_wp2_with (go_at_call 48; refine (HF.out _ (H.out.drewN _)).mono ?_; rintro r w2 ⟨rfl, hb2, ho2⟩; have k2 := hb2.c2; have HB2 := Lib.hid hb2; have HO2 := Lib.hid ho2; clear hb2 ho2)
      go_ret
      exact ⟨rfl, HB2.out, ((Only.refl _ _).drewN _).trans HO2.out⟩
  · rw [if_neg he] at hs
    cases hs
    have H := Lib.hid h
    have h2 := h.c2
    have hz : (e == 0) = false := beq_eq_false_iff_ne.2 he
    clear h hb he
    go_enter Try.func44, Try.ntmps44
    go_wp2_with fail
    go_quiet (fail)
    go_wp2_with fail
    go_ret
    exact ⟨rfl, H.out.drewN _, (Only.refl _ _).drewN _⟩
theorem takeS_p (zs : List Int) (p : Nat) (e : Int) (m : Nat) (h : p ≤ 8 * zs.length) : (takeS zs p e m).2.1 ≤ 8 * zs.length ∧ p ≤ (takeS zs p e m).2.1 := by
  unfold takeS
  split
  · split
    · exact ⟨by assumption, Nat.le_add_right _ _⟩
    · exact ⟨h, Nat.le_refl _⟩
  · exact ⟨h, Nat.le_refl _⟩
theorem takeS_v (zs : List Int) (p : Nat) (e : Int) (m : Nat) : 0 ≤ (takeS zs p e m).1 ∧ (takeS zs p e m).1 < 2 ^ m := by
  have h := bitsZ_bd zs p m
  have h2 : (0 : Int) < 2 ^ m := Int.pow_pos (by omega)
  unfold takeS
  split
  · split
    · exact h
    · exact ⟨Int.le_refl _, h2⟩
  · exact ⟨Int.le_refl _, h2⟩
end Go.Proofs.Ytginbilakdenmaa
