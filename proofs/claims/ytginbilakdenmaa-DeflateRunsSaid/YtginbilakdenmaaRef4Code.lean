/- The document's own codes (chapter 4): may, codes, symbol. -/
import Derived.Test.YtginbilakdenmaaRef4Bits
namespace Go.Proofs.Ytginbilakdenmaa
open Go.RowKit
set_option linter.unusedVariables false
set_option maxRecDepth 100000

/-- A slice of numbers, all of it below block B. -/
structure Nums (w : World) (B : Nat) (A : Option Addr) (n c : Nat) (zs : List Int) : Prop where
  len : zs.length = n
  cap : n ≤ c
  cell : 0 < n → ∃ b o, A = some ⟨b, o, none⟩ ∧ b < B ∧ ∀ i, i < n → w.cell? ⟨b, o + i, none⟩ = some (.int .i64 (zs.getD i 0))
theorem Nums.below {w w' : World} {B B' n c : Nat} {A : Option Addr} {zs : List Int} (h : Nums w B A n c zs) (hb : Below B' w w') (hB : B ≤ B') : Nums w' B A n c zs :=
  ⟨h.len, h.cap, fun hn => by
    obtain ⟨b, o, e, hlt, hc⟩ := h.cell hn
    exact ⟨b, o, e, hlt, fun i hi => (hb.cell (p := ⟨b, o + i, none⟩) (Nat.lt_of_lt_of_le hlt hB)).trans (hc i hi)⟩⟩
theorem Nums.only {w w' : World} {B g n c : Nat} {A : Option Addr} {zs : List Int} (h : Nums w B A n c zs) (ho : Only g w w') (hB : B ≤ g) (hg : g ≤ w.heap.size) : Nums w' B A n c zs := h.below (ho.below hg) hB

/-- What a length weighs; the sum of them, and how many are above 0. -/
def wtZ (x : Int) : Int := if 0 < x then 2 ^ (15 - x).toNat else 0
def sumN (l : List Int) : Nat → Int
  | 0 => 0
  | k + 1 => sumN l k + wtZ (l.getD k 0)
def manyN (l : List Int) : Nat → Int
  | 0 => 0
  | k + 1 => manyN l k + (if 0 < l.getD k 0 then 1 else 0)
def mayS (l : List Int) : Bool := decide (sumN l l.length ≤ 32768) && (sumN l l.length == 32768 || decide (manyN l l.length ≤ 1))
theorem wtZ_bd (x : Int) (h : x ≤ 15) : 0 ≤ wtZ x ∧ wtZ x ≤ 65536 := by
  unfold wtZ
  split
  · have := pow_le16 (15 - x).toNat (by omega); omega
  · omega
theorem sumN_bd (l : List Int) (h : ∀ i, l.getD i 0 ≤ 15) : ∀ k, 0 ≤ sumN l k ∧ sumN l k ≤ 65536 * k
  | 0 => by simp [sumN]
  | k + 1 => by have h1 := sumN_bd l h k; have h2 := wtZ_bd _ (h k); rw [sumN]; omega
theorem manyN_bd (l : List Int) : ∀ k, 0 ≤ manyN l k ∧ manyN l k ≤ k
  | 0 => by simp [manyN]
  | k + 1 => by have h1 := manyN_bd l k; rw [manyN]; split <;> omega

set_option maxRecDepth 100000 in
theorem mayC (A : Option Addr) (n c B : Nat) (l : List Int) (w : World) (hl : Nums w B A n c l) (hn : n ≤ 1000) (h0 : ∀ i, 0 ≤ l.getD i 0) (h15 : ∀ i, l.getD i 0 ≤ 15) :
    Calls Try.prog 59 #[.slice A n c] w fun e w' => e = .returned (.bool (mayS l)) ∧ w = w' := by
  have HL := Lib.hid hl
  have HS := Lib.hid (sumN_bd l h15)
  have HM := Lib.hid (manyN_bd l)
  have H0 := Lib.hid h0
  have H15 := Lib.hid h15
  have hms : mayS l = (decide (sumN l n ≤ 32768) && (sumN l n == 32768 || decide (manyN l n ≤ 1))) := by unfold mayS; rw [hl.len]
  have HMS := Lib.hid hms
  clear hl h0 h15 hms
  go_enter Try.func59, Try.ntmps59
  go_wp2
  go_loop [3, 4, 5] (fun s m i => ∃ k : Nat, k ≤ n ∧ i = .int .i64 k ∧ s = .int .i64 (sumN l k) ∧ m = .int .i64 (manyN l k)) (fun _ _ i => n - (intOf i).toNat)
  case atStart => exact ⟨0, Nat.zero_le _, rfl, rfl, rfl⟩
  case round =>
    obtain ⟨k, hk, rfl, rfl, rfl⟩ := hrel
    have hsb := HS.out k
    have hmb := HM.out k
    by_cases hlt : k < n
    · obtain ⟨b, o, rfl, _, hc⟩ := HL.out.cell (by omega)
      have ck := hc k hlt
      have hs1 : sumN l (k + 1) = sumN l k + wtZ (l.getD k 0) := rfl
      have hm1 : manyN l (k + 1) = manyN l k + (if 0 < l.getD k 0 then 1 else 0) := rfl
      have hx0 := H0.out k
      have hx15 := H15.out k
      obtain ⟨x, hx⟩ : ∃ x, l.getD k 0 = x := ⟨_, rfl⟩
      obtain ⟨s, hs⟩ : ∃ s, sumN l k = s := ⟨_, rfl⟩
      obtain ⟨m, hm⟩ : ∃ m, manyN l k = m := ⟨_, rfl⟩
      rw [hx] at ck hs1 hm1 hx0 hx15
      rw [hs] at hs1 hsb ⊢
      rw [hm] at hm1 hmb ⊢
      clear hc hx hs hm
      by_cases hp : 0 < x
      · rw [show wtZ x = 2 ^ (15 - x).toNat by unfold wtZ; rw [if_pos hp]] at hs1
        rw [if_pos hp] at hm1
        have hp16 := pow_le16 (15 - x).toNat (by omega)
        have HS1 := Lib.hid hs1
        have HM1 := Lib.hid hm1
        obtain ⟨y, hy⟩ : ∃ y : Nat, 15 - x = y := ⟨(15 - x).toNat, by omega⟩
        have hyn : (15 - x).toNat = y := by omega
        rw [hyn] at HS1 hp16
        have e1 : IntKind.u64.wrap (y : Int) = y := by rw [IntKind.wrap_u64]; omega
        have e2 : IntKind.i64.wrap (2 ^ y) = 2 ^ y := IntWalk.i64_in _ (by omega)
        clear hs1 hm1 hyn
        go_wp2
        go_round
        case rel => exact ⟨k + 1, by omega, by go_num, by rw [HS1.out], by rw [HM1.out]⟩
        case measure => simp [intOf]; omega
      · rw [show wtZ x = 0 by unfold wtZ; rw [if_neg hp]] at hs1
        rw [if_neg hp] at hm1
        have HS1 := Lib.hid hs1
        have HM1 := Lib.hid hm1
        clear hs1 hm1
        go_wp2
        go_round
        case rel => exact ⟨k + 1, by omega, by go_num, by rw [HS1.out, Int.add_zero], by rw [HM1.out, Int.add_zero]⟩
        case measure => simp [intOf]; omega
    · obtain rfl : k = n := by omega
      have hms := HMS.out
      obtain ⟨s, hs⟩ : ∃ s, sumN l k = s := ⟨_, rfl⟩
      obtain ⟨m, hm⟩ : ∃ m, manyN l k = m := ⟨_, rfl⟩
      rw [hs, hm] at hms
      rw [hs] at hsb ⊢
      rw [hm] at hmb ⊢
      clear hs hm
      rcases d1 : decide (s ≤ 32768) with _ | _ <;> rcases d2 : (s == 32768) with _ | _ <;> rcases d3 : decide (m ≤ 1) with _ | _
      all_goals
        rw [d1, d2, d3] at hms
        have HR := Lib.hid hms
        clear hms
        go_wp2
        go_ret
        exact ⟨by rw [HR.out]; rfl, rfl⟩
end Go.Proofs.Ytginbilakdenmaa
