/- What the method Word of package cursor's Cursor answers, and where the cursor stands behind it; what the document's own Number and Same answer. -/
import Derived.Test.YtffmdlknkimlhaaCurC
import Derived.LoopTactic
import Derived.Laws.BitsAllLaws
import Derived.Laws.BitsLemmas
namespace Go.Proofs.Ytffmdlknkimlhaa
open Go.RowKit
set_option linter.unusedVariables false

/-- The number of bytes, the highest first. -/
def numZ (zs : List Int) : Int := zs.foldl (fun a z => a * 256 + z) 0
theorem numZ_snoc (zs : List Int) (z : Int) : numZ (zs ++ [z]) = numZ zs * 256 + z := by simp [numZ]
theorem take_snocZ (zs : List Int) (k : Nat) (h : k < zs.length) : zs.take (k + 1) = zs.take k ++ [zs.getD k 0] := by
  rw [List.take_succ_eq_append_getElem h]; simp [List.getD, h]
theorem numZ_take (zs : List Int) (k : Nat) (h : k < zs.length) : numZ (zs.take (k + 1)) = numZ (zs.take k) * 256 + zs.getD k 0 := by
  rw [take_snocZ zs k h, numZ_snoc]
theorem numZ_lt (zs : List Int) (hr : ∀ z ∈ zs, 0 ≤ z ∧ z < 256) : ∀ k, k ≤ zs.length → 0 ≤ numZ (zs.take k) ∧ numZ (zs.take k) < 256 ^ k := by
  intro k
  induction k with
  | zero => intro _; simp [numZ]
  | succ k ih =>
    intro hk
    have h1 := ih (by omega)
    have hz := hr _ (List.getElem_mem (show k < zs.length by omega))
    have e : zs.getD k 0 = zs[k] := by simp [List.getD, show k < zs.length by omega]
    rw [numZ_take zs k (by omega), e]
    have e2 : (256 : Int) ^ (k + 1) = 256 ^ k * 256 := Int.pow_succ 256 k
    omega
theorem numZ_bd (zs : List Int) (hr : ∀ z ∈ zs, 0 ≤ z ∧ z < 256) (k : Nat) (hk : k ≤ zs.length) (h7 : k ≤ 6) : 0 ≤ numZ (zs.take k) ∧ numZ (zs.take k) < 281474976710656 := by
  have h := numZ_lt zs hr k hk
  have h2 : (256 : Int) ^ k ≤ 281474976710656 := by
    match k, h7 with
    | 0, _ => decide
    | 1, _ => decide
    | 2, _ => decide
    | 3, _ => decide
    | 4, _ => decide
    | 5, _ => decide
    | 6, _ => decide
  omega

theorem or_byte (v z : Int) (v0 : 0 ≤ v) (v1 : v < 281474976710656) (z0 : 0 ≤ z) (z1 : z < 256) : bits .or .i64 (v * 256) z = v * 256 + z := by
  obtain ⟨a, rfl⟩ : ∃ a : Nat, v = a := ⟨v.toNat, by omega⟩
  obtain ⟨b, rfl⟩ : ∃ b : Nat, z = b := ⟨z.toNat, by omega⟩
  have e0 : (a : Int) * 256 = ((a * 256 : Nat) : Int) := by omega
  have f : ∀ x : Nat, x < 9223372036854775808 → (BitVec.ofInt 64 (x : Int)).toNat = x := fun x hx => by
    rw [BitVec.ofInt_natCast, BitVec.toNat_ofNat]; exact Nat.mod_eq_of_lt (by omega)
  rw [e0]
  show IntKind.i64.wrap ((BitVec.ofInt 64 ((a * 256 : Nat) : Int) ||| BitVec.ofInt 64 (b : Int)).toNat : Int) = _
  rw [BitVec.toNat_or, f _ (by omega), f _ (by omega)]
  have h := Nat.two_pow_add_eq_or_of_lt (i := 8) (b := b) (by omega) a
  have e1 : a * 256 ||| b = a * 256 + b := by
    rw [show a * 256 = 2 ^ 8 * a by omega, ← h]
  rw [e1, IntWalk.i64_in _ (by omega)]
  omega

theorem refNumber (A : Option Addr) (n c B : Nat) (zs : List Int) (w : World) (hb : Byt w B A n c zs) (hn : n ≤ 7) :
    Calls Try.prog 25 #[.slice A n c] w fun e w' => e = .returned (.int .i64 (numZ zs)) ∧ w = w' := by
  have HB := Lib.hid hb
  have HL := Lib.hid hb.len
  clear hb
  go_enter Try.func25, Try.ntmps25
  go_wp2
  go_loop [3, 4] (fun a i => ∃ k : Nat, k ≤ n ∧ i = .int .i64 k ∧ a = .int .i64 (numZ (zs.take k))) (fun _ i => n - (intOf i).toNat)
  case atStart => exact ⟨0, Nat.zero_le _, rfl, rfl⟩
  case round =>
    obtain ⟨k, hk, rfl, rfl⟩ := hrel
    by_cases hlt : k < n
    · have hv := numZ_bd zs HB.out.rng k (by rw [HL.out]; omega) (by omega)
      have hsn := numZ_take zs k (by rw [HL.out]; omega)
      have hz := HB.out.getD k
      obtain ⟨b, o, rfl, _, hc⟩ := HB.out.cell (by omega)
      have hck := hc k hlt
      obtain ⟨z, hzz⟩ : ∃ z, zs.getD k 0 = z := ⟨_, rfl⟩
      obtain ⟨v, hvv⟩ : ∃ v, numZ (zs.take k) = v := ⟨_, rfl⟩
      rw [hzz] at hck hsn hz
      rw [hvv] at hsn hv
      have HSN := Lib.hid hsn
      obtain ⟨z0, z1⟩ := hz
      obtain ⟨v0, v1⟩ := hv
      rw [hvv]
      have HV := Lib.hid hvv
      clear hzz hvv hsn hc
      go_wp2
      go_round
      case rel =>
        exact ⟨k + 1, by omega, by go_num, by rw [HSN.out, or_byte v z v0 (by omega) z0 z1]⟩
      case measure => simp [intOf]; omega
    · go_wp2
      go_ret
      exact ⟨ret_int (by rw [List.take_of_length_le (by rw [HL.out]; omega)]), rfl⟩

theorem word_out (g n c p : Nat) (m : Int) (A : Option Addr) (w : World) (h : Cur w g A n c p) (hp : p ≤ n) (hm : m < 1 ∨ 7 < m ∨ (n : Int) - p < m) (hn : n ≤ 1000000) :
    Calls Try.prog 24 #[.pointer (some ⟨g, 0, none⟩), .int .i64 m] w fun e w' => e = .returned (.tuple #[.int .i64 0, .bool false]) ∧ w = w' := by
  have HL := Lib.hid (left_any g n c p A w h hp (by omega))
  by_cases h1 : m < 1
  · go_enter Try.func24, Try.ntmps24
    go_wp2_with (go_at_call 18; refine HL.out.mono ?_; rintro e w' ⟨rfl, rfl⟩)
    go_ret2
    exact ⟨rfl, rfl⟩
  · by_cases h2 : 7 < m
    · go_enter Try.func24, Try.ntmps24
      go_wp2_with (go_at_call 18; refine HL.out.mono ?_; rintro e w' ⟨rfl, rfl⟩)
      go_ret2
      exact ⟨rfl, rfl⟩
    · have h3 : (n : Int) - p < m := by omega
      clear hm
      go_enter Try.func24, Try.ntmps24
      go_wp2_with (go_at_call 18; refine HL.out.mono ?_; rintro e w' ⟨rfl, rfl⟩)
      go_ret2
      exact ⟨rfl, rfl⟩

theorem word_in (g n c p m B : Nat) (A : Option Addr) (zs : List Int) (w : World) (h : Cur w g A n c p) (hb : Byt w B A n c zs) (hB : B ≤ g) (h1 : 1 ≤ m) (h7 : m ≤ 7) (hm : p + m ≤ n) (hn : n ≤ 1000000) :
    Calls Try.prog 24 #[.pointer (some ⟨g, 0, none⟩), .int .i64 m] w fun e w' => e = .returned (.tuple #[.int .i64 (numZ ((zs.drop p).take m)), .bool true]) ∧ Cur w' g A n c (p + m) ∧ Only g w w' := by
  have HL := Lib.hid (left_any g n c p A w h (by omega) (by omega))
  have HB := Lib.hid hb
  have H := Lib.hid h
  have b1 : ¬ (m : Int) < 1 := by omega
  have b2 : ¬ 7 < (m : Int) := by omega
  have b3 : ¬ (n : Int) - p < m := by omega
  obtain ⟨ys, hys⟩ : ∃ ys, (zs.drop p).take m = ys := ⟨_, rfl⟩
  have HY := Lib.hid hys
  have hyl : ys.length = m := by rw [← hys]; simp [hb.len]; omega
  have HYL := Lib.hid hyl
  have HYR : Hid (∀ z ∈ ys, 0 ≤ z ∧ z < 256) := Lib.hid (fun z hz => hb.rng z (by rw [← hys] at hz; exact List.mem_of_mem_drop (List.mem_of_mem_take hz)))
  have HYG : Hid (∀ k, k < m → ys.getD k 0 = peekZ zs ((p + k : Nat) : Int)) := Lib.hid (fun k hk => by
    rw [peekZ_in zs (p + k) (by rw [hb.len]; omega), ← hys]
    simp [List.getD, hk])
  rw [hys]
  clear hys hyl h hb
  go_enter Try.func24, Try.ntmps24
  go_wp2_with (go_at_call 18; refine HL.out.mono ?_; rintro e w' ⟨rfl, rfl⟩)
  go_loopw [6, 20] (fun a i wr => ∃ k : Nat, k ≤ m ∧ i = .int .i64 k ∧ a = .int .i64 (numZ (ys.take k)) ∧ Cur wr g A n c (p + k) ∧ Only g w wr) (fun _ i _ => m - (intOf i).toNat)
  case atStart => exact ⟨0, Nat.zero_le _, rfl, rfl, H.out, Only.refl _ _⟩
  case round =>
    obtain ⟨k, hk, rfl, rfl, hcur, hbel⟩ := hrel
    by_cases hlt : k < m
    · have hv := numZ_bd ys HYR.out k (by rw [HYL.out]; omega) (by omega)
      have hsn := numZ_take ys k (by rw [HYL.out]; omega)
      have hg := HYG.out k hlt
      have hz : 0 ≤ ys.getD k 0 ∧ ys.getD k 0 < 256 := by
        have hl := HYL.out
        have e : ys.getD k 0 = ys[k] := by simp [List.getD, hl, hlt]
        rw [e]; exact HYR.out _ (List.getElem_mem _)
      have hnx := next_in g n c (p + k) B A zs wr hcur (HB.out.only hbel hB (Nat.le_of_lt H.out.lt)) (by omega) hn
      rw [← hg] at hnx
      obtain ⟨z, hzz⟩ : ∃ z, ys.getD k 0 = z := ⟨_, rfl⟩
      obtain ⟨v, hvv⟩ : ∃ v, numZ (ys.take k) = v := ⟨_, rfl⟩
      rw [hzz] at hnx hsn hz
      rw [hvv] at hsn hv
      have HSN := Lib.hid hsn
      have HNX := Lib.hid hnx
      have HBL := Lib.hid hbel
      obtain ⟨z0, z1⟩ := hz
      obtain ⟨v0, v1⟩ := hv
      rw [hvv]
      clear hzz hvv hsn hnx hcur hg hbel
      go_wp2_with (go_at_call 10; refine HNX.out.mono ?_; rintro e w2 ⟨rfl, hc2, hb2⟩)
      go_roundw
      case rel => exact ⟨k + 1, by omega, by go_num, by rw [HSN.out, or_byte v z v0 (by omega) z0 z1], by rw [← Nat.add_assoc]; exact hc2, HBL.out.trans hb2⟩
      case measure => simp [intOf]; omega
    · obtain rfl : k = m := by omega
      have HBL := Lib.hid hbel
      have HCU := Lib.hid hcur
      clear hbel hcur
      go_wp2
      go_ret2
      exact ⟨by first | rfl | (rw [List.take_of_length_le (by rw [HYL.out]; omega)]; rfl), HCU.out, HBL.out⟩

theorem getD_eq (xs : List Int) (i : Nat) (h : i < xs.length) : xs.getD i 0 = xs[i] := by simp [List.getD, h]
theorem list_eq_of_getD (xs ys : List Int) (hl : xs.length = ys.length) (h : ∀ i, i < xs.length → xs.getD i 0 = ys.getD i 0) : xs = ys := by
  apply List.ext_getElem hl
  intro i h1 h2
  rw [← getD_eq xs i h1, ← getD_eq ys i h2]
  exact h i h1

/-- The document's own Same: of rows of one length. -/
theorem refSame_yes (A A2 : Option Addr) (n c B c2 B2 : Nat) (zs : List Int) (w : World) (hb : Byt w B A n c zs) (hb2 : Byt w B2 A2 n c2 zs) (hn : n ≤ 1000000) :
    Calls Try.prog 22 #[.slice A n c, .slice A2 n c2] w fun e w' => e = .returned (.bool true) ∧ ∃ q, w' = w.drewN q := by
  have HB := Lib.hid hb
  have HB2 := Lib.hid hb2
  clear hb hb2
  go_enter Try.func22, Try.ntmps22
  go_wp2
  go_loopw [5] (fun i wr => ∃ k q : Nat, k ≤ n ∧ i = .int .i64 k ∧ wr = w.drewN q) (fun i _ => n - (intOf i).toNat)
  case atStart => exact ⟨0, 0, Nat.zero_le _, rfl, rfl⟩
  case round =>
    obtain ⟨k, q, hk, rfl, rfl⟩ := hrel
    by_cases hlt : k < n
    · have hz := HB.out.getD k
      obtain ⟨b, o, rfl, _, hc⟩ := HB.out.cell (by omega)
      obtain ⟨b', o', rfl, _, hc'⟩ := HB2.out.cell (by omega)
      have hck := hc k hlt
      have hck' := hc' k hlt
      obtain ⟨z, hzz⟩ : ∃ z, zs.getD k 0 = z := ⟨_, rfl⟩
      rw [hzz] at hck hck' hz
      obtain ⟨z0, z1⟩ := hz
      clear hzz hc hc'
      have hkn : (k : Int) < n := by omega
      go_wp2_with fail
      go_quiet (fail)
      go_wp2
      go_roundw
      case rel => exact ⟨k + 1, _, by omega, by go_num, rfl⟩
      case measure => simp [intOf]; omega
    · go_wp2
      go_ret
      exact ⟨rfl, _, rfl⟩
end Go.Proofs.Ytffmdlknkimlhaa
