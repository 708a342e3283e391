/- Contracts of functions that the law calls, and what they lean on (a part). -/
import Derived.Test.YtliieeagbpmcgaaDoorPu2
import Derived.Test.YtliieeagbpmcgaaDoorPu11
import Derived.Test.YtliieeagbpmcgaaDoorPu13
namespace Go.Proofs.YtliieeagbpmcgaaDoor
section
open Go.RowKit
set_option linter.unusedVariables false
/-- Bytes as numbers. -/
def zsB (l : List UInt8) : List Int := l.map fun b => (b.toNat : Int)
theorem zsB_append (a b : List UInt8) : zsB (a ++ b) = zsB a ++ zsB b := List.map_append
def Digs (l : List Int) : Prop := ∀ z ∈ l, 48 ≤ z ∧ z ≤ 57
/-- The number that digits say, from a on. -/
def valZ (l : List Int) (a : Int) : Int := l.foldl (fun a z => 10 * a + (z - 48)) a
theorem valZ_append (l r : List Int) (a : Int) : valZ (l ++ r) a = valZ r (valZ l a) := List.foldl_append
theorem Digs.app {l r : List Int} (h : Digs l) (k : Digs r) : Digs (l ++ r) := fun z hz => (List.mem_append.1 hz).elim (h z) (k z)
theorem valZ_mono : ∀ (l : List Int) (a : Int), Digs l → 0 ≤ a → a ≤ valZ l a
  | [], a, _, _ => Int.le_refl a
  | z :: r, a, h, ha => by
    have h1 := h z List.mem_cons_self
    have := valZ_mono r (10 * a + (z - 48)) (fun y hy => h y (List.mem_cons_of_mem _ hy)) (by omega)
    show a ≤ valZ r (10 * a + (z - 48))
    omega
theorem scanP_digs : ∀ (l r : List Int) (P D : Nat), Digs l → scanP (l ++ r) P D = scanP r P (D + l.length)
  | [], r, P, D, _ => rfl
  | z :: l, r, P, D, h => by
    have h1 := h z List.mem_cons_self
    rw [List.cons_append, scanP, if_neg (by omega), if_pos h1, scanP_digs l r P (D + 1) (fun y hy => h y (List.mem_cons_of_mem _ hy)), List.length_cons]
    congr 1; omega
theorem wholeZ_digs : ∀ (l r : List Int) (a : Int), Digs l → 0 ≤ a → valZ l a ≤ 2147483647 → wholeZ (l ++ r) a = wholeZ r (valZ l a)
  | [], r, a, _, _, _ => rfl
  | z :: l, r, a, h, ha, hv => by
    have h1 := h z List.mem_cons_self
    have hr : Digs l := fun y hy => h y (List.mem_cons_of_mem _ hy)
    have hm := valZ_mono l (10 * a + (z - 48)) hr (by omega)
    have hv2 : valZ l (10 * a + (z - 48)) ≤ 2147483647 := hv
    rw [List.cons_append, wholeZ, if_neg (by omega), if_neg (by omega), wholeZ_digs l r _ hr (by omega) hv2]
    rfl
/-- Digits alone. -/
theorem restS_digs (neg : Bool) (l : List Int) (h : Digs l) (h0 : l ≠ []) (hv : valZ l 0 ≤ 2147483647) : restS neg l = (sgZ neg (valZ l 0), true, 0) := by
  have e1 := scanP_digs l [] 0 0 h
  have e2 := wholeZ_digs l [] 0 h (by omega) hv
  rw [List.append_nil] at e1 e2
  have hl : 0 < l.length := List.length_pos_iff.2 h0
  rw [restS, e1, e2]
  simp only [scanP, wholeZ]
  rw [if_neg (by omega)]
  rfl
/-- Digits, a point, digits. -/
theorem restS_point (neg : Bool) (l r : List Int) (h : Digs l) (k : Digs r) (h0 : l ≠ []) (hv : valZ l 0 ≤ 2147483647) : restS neg (l ++ 46 :: r) = (sgZ neg (valZ l 0 * 100000 + fracK r 5), false, 0) := by
  have e1 := scanP_digs l (46 :: r) 0 0 h
  have e3 := scanP_digs r [] 1 (0 + l.length) k
  rw [List.append_nil] at e3
  have e2 := wholeZ_digs l (46 :: r) 0 h (by omega) hv
  have hl : 0 < l.length := List.length_pos_iff.2 h0
  rw [restS, e1, e2]
  simp only [scanP, wholeZ, if_true]
  rw [e3]
  simp only [scanP]
  rw [if_neg (by omega), if_neg (by omega)]
  rfl
theorem parseS_neg (l : List Int) : parseS (45 :: l) = restS true l := rfl
theorem parseS_digs (l r : List Int) (h : Digs l) (h0 : l ≠ []) : parseS (l ++ r) = restS false (l ++ r) := by
  match l, h0 with
  | z :: l, _ =>
    have h1 := h z List.mem_cons_self
    rw [List.cons_append, parseS, if_neg (by omega), if_neg (by omega)]
theorem dig_toNat (n : Nat) : ((UInt8.ofNat (48 + n % 10)).toNat : Int) = 48 + ((n % 10 : Nat) : Int) := by
  have : (48 + n % 10) % 256 = 48 + n % 10 := by omega
  simp [UInt8.toNat_ofNat']
  omega
theorem digF_digs : ∀ (f n : Nat), Digs (zsB (digF f n))
  | 0, _ => fun _ h => by cases h
  | f + 1, n => by
    have hd : Digs (zsB [UInt8.ofNat (48 + n % 10)]) := fun z hz => by
      have e : z = 48 + ((n % 10 : Nat) : Int) := by
        rw [← dig_toNat]; simpa [zsB] using hz
      omega
    rw [digF, zsB_append]
    split
    · exact hd
    · exact (digF_digs f (n / 10)).app hd
theorem digF_val : ∀ (f n : Nat), n < 10 ^ f → valZ (zsB (digF f n)) 0 = n
  | 0, n, h => by
    obtain rfl : n = 0 := by omega
    rfl
  | f + 1, n, h => by
    have hp : 10 ^ (f + 1) = 10 ^ f * 10 := Nat.pow_succ 10 f
    have ih := digF_val f (n / 10) (by omega)
    rw [digF, zsB_append, valZ_append]
    have e : ∀ a, valZ (zsB [UInt8.ofNat (48 + n % 10)]) a = 10 * a + ((n % 10 : Nat) : Int) := fun a => by
      show 10 * a + (((UInt8.ofNat (48 + n % 10)).toNat : Int) - 48) = _
      rw [dig_toNat]; omega
    rw [e]
    split
    · show 10 * (0 : Int) + _ = _
      omega
    · rw [ih]; omega
theorem digB_digs (n : Nat) : Digs (zsB (digB n)) := digF_digs 20 n
theorem digB_val (n : Nat) (h : n < 10 ^ 20) : valZ (zsB (digB n)) 0 = n := digF_val 20 n h
theorem digB_ne (n : Nat) : zsB (digB n) ≠ [] := by
  have h : (digB n).length ≠ 0 := by unfold digB; rw [digF_len]; split <;> omega
  intro e
  apply h
  have := congrArg List.length e
  simpa [zsB] using this
theorem stripR_spec : ∀ (l : List UInt8), ∃ j, l = List.replicate j 48 ++ stripR l
  | [] => ⟨0, rfl⟩
  | [x] => ⟨0, rfl⟩
  | x :: y :: r => by
    rw [stripR]
    split
    · next h =>
      obtain ⟨j, hj⟩ := stripR_spec (y :: r)
      exact ⟨j + 1, by rw [List.replicate_succ, List.cons_append, ← hj, h]⟩
    · exact ⟨0, rfl⟩
theorem stripZ_spec (l : List UInt8) : ∃ j, l = stripZ l ++ List.replicate j 48 := by
  obtain ⟨j, hj⟩ := stripR_spec l.reverse
  refine ⟨j, ?_⟩
  have := congrArg List.reverse hj
  rw [List.reverse_reverse, List.reverse_append, List.reverse_replicate] at this
  exact this
theorem fracK_pad (l : List Int) (j : Nat) : ∀ k, fracK (l ++ List.replicate j 48) k = fracK l k
  | 0 => rfl
  | k + 1 => by
    rw [fracK, fracK, fracK_pad l j k]
    congr 1
    by_cases h : k < l.length
    · rw [if_pos (by rw [List.length_append]; omega), if_pos h, List.getD_eq_getElem?_getD, List.getD_eq_getElem?_getD, List.getElem?_append_left h]
    · rw [if_neg h]
      split
      · next h2 =>
        rw [List.length_append, List.length_replicate] at h2
        rw [List.getD_eq_getElem?_getD, List.getElem?_append_right (by omega), List.getElem?_replicate, if_pos (by omega)]
        rfl
      · rfl
theorem digB6 (m : Nat) (h1 : 100000 ≤ m) (h2 : m < 1000000) : digB m = [UInt8.ofNat (48 + m / 10 / 10 / 10 / 10 / 10 % 10), UInt8.ofNat (48 + m / 10 / 10 / 10 / 10 % 10), UInt8.ofNat (48 + m / 10 / 10 / 10 % 10), UInt8.ofNat (48 + m / 10 / 10 % 10), UInt8.ofNat (48 + m / 10 % 10), UInt8.ofNat (48 + m % 10)] := by
  unfold digB
  rw [digF, if_neg (by omega), digF, if_neg (by omega), digF, if_neg (by omega), digF, if_neg (by omega), digF, if_neg (by omega), digF, if_pos (by omega)]
  rfl
theorem frac_full (u : Nat) : fracK (zsB ((digB (100000 + u % 100000)).drop 1)) 5 = ((u % 100000 : Nat) : Int) := by
  rw [digB6 _ (by omega) (by omega)]
  obtain ⟨m, hm⟩ : ∃ m, u % 100000 = m := ⟨_, rfl⟩
  have hb : m < 100000 := by omega
  rw [hm]
  clear hm
  show 10 * (10 * (10 * (10 * (10 * 0 + (((UInt8.ofNat (48 + (100000 + m) / 10 / 10 / 10 / 10 % 10)).toNat : Int) - 48)) + (((UInt8.ofNat (48 + (100000 + m) / 10 / 10 / 10 % 10)).toNat : Int) - 48)) + (((UInt8.ofNat (48 + (100000 + m) / 10 / 10 % 10)).toNat : Int) - 48)) + (((UInt8.ofNat (48 + (100000 + m) / 10 % 10)).toNat : Int) - 48)) + (((UInt8.ofNat (48 + (100000 + m) % 10)).toNat : Int) - 48) = _
  rw [dig_toNat, dig_toNat, dig_toNat, dig_toNat, dig_toNat]
  omega
theorem frac_back (u : Nat) : fracK (zsB (fracB u)) 5 = ((u % 100000 : Nat) : Int) := by
  obtain ⟨j, hj⟩ := stripZ_spec ((digB (100000 + u % 100000)).drop 1)
  have e := frac_full u
  rw [hj, zsB_append] at e
  have e2 : zsB (List.replicate j 48) = List.replicate j 48 := by unfold zsB; rw [List.map_replicate]; rfl
  rw [e2, fracK_pad] at e
  exact e
theorem frac_digs (u : Nat) : Digs (zsB (fracB u)) := by
  obtain ⟨j, hj⟩ := stripZ_spec ((digB (100000 + u % 100000)).drop 1)
  intro z hz
  apply digB_digs (100000 + u % 100000) z
  have h1 : z ∈ zsB ((digB (100000 + u % 100000)).drop 1) := by
    rw [hj, zsB_append]; exact List.mem_append_left _ hz
  unfold zsB at h1 ⊢
  rw [List.map_drop] at h1
  exact List.mem_of_mem_drop h1
/-- P2.1, P2.2: a number that may be, as a text, is read as it was. -/
theorem parse_text (n : Int) (whole : Bool) (hn : inB n = true) (hw : whole = true → -2147483647 ≤ n ∧ n ≤ 2147483647) :
    parseS (zsB (textB n whole)) = (n, whole, 0) := by
  obtain ⟨n0, n1⟩ := (inB_iff n).1 hn
  have hrest : ∀ neg, restS neg (zsB (if whole = true then digB n.natAbs else digB (n.natAbs / 100000) ++ [46] ++ fracB n.natAbs)) = (sgZ neg n.natAbs, whole, 0) := by
    intro neg
    cases whole
    · rw [if_neg (by decide), zsB_append, zsB_append, List.append_assoc]
      rw [show zsB [46] ++ zsB (fracB n.natAbs) = 46 :: zsB (fracB n.natAbs) from rfl]
      have hv := digB_val (n.natAbs / 100000) (by omega)
      rw [restS_point neg _ _ (digB_digs _) (frac_digs _) (digB_ne _) (by omega), hv, frac_back]
      congr 2
      omega
    · have hb := hw rfl
      have hv := digB_val n.natAbs (by omega)
      rw [if_pos rfl, restS_digs neg _ (digB_digs _) (digB_ne _) (by omega), hv]
  unfold textB signB
  rw [zsB_append]
  by_cases h : n < 0
  · rw [if_pos h]
    show parseS (45 :: zsB _) = _
    rw [parseS_neg, hrest]
    unfold sgZ
    rw [if_pos rfl]
    congr 1; omega
  · rw [if_neg h]
    show parseS (zsB _) = _
    have hp : parseS (zsB (if whole = true then digB n.natAbs else digB (n.natAbs / 100000) ++ [46] ++ fracB n.natAbs)) = restS false (zsB (if whole = true then digB n.natAbs else digB (n.natAbs / 100000) ++ [46] ++ fracB n.natAbs)) := by
      cases whole
      · rw [if_neg (by decide), zsB_append, zsB_append, List.append_assoc]
        exact parseS_digs _ _ (digB_digs _) (digB_ne _)
      · rw [if_pos rfl]
        have := parseS_digs _ [] (digB_digs n.natAbs) (digB_ne _)
        rw [List.append_nil] at this
        exact this
    rw [hp, hrest]
    unfold sgZ
    rw [if_neg (by decide)]
    congr 1; omega
end

section
open Go.RowKit
set_option linter.unusedVariables false
theorem fxSize (n : Int) (w : World) (h1 : -9223372036854775808 ≤ n) (h2 : n ≤ 9223372036854775807) :
    Calls Tryd.prog 53 #[.int .i64 n] w fun e w' => e = .returned (.int .u64 (n.natAbs : Int)) ∧ w = w' := by
  by_cases h0 : n < 0
  · go_enter Tryd.func53, Tryd.ntmps53
    go_wp2
    go_ret
    exact ⟨ret_intW (by rw [IntKind.wrap_u64, IntKind.wrap_u64]; omega), rfl⟩
  · go_enter Tryd.func53, Tryd.ntmps53
    go_wp2
    go_ret
    exact ⟨ret_intW (by omega), rfl⟩
end
end Go.Proofs.YtliieeagbpmcgaaDoor
