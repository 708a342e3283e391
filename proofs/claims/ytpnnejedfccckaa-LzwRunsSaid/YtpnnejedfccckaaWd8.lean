/- Chapter 8, the project's own: how wide a code is; bits turned. -/
import Derived.Test.YtpnnejedfccckaaPr8
import Derived.Test.YtpnnejedfccckaaLz8
import Derived.Lib.Tables
import Derived.StillTailTactics
namespace Go.Proofs.Ytpnnejedfccckaa
open Go.RowKit
set_option linter.unusedVariables false
set_option maxRecDepth 100000

theorem and255 : ∀ x : Fin 4096, bits .and .u16 (x.val : Int) 255 = (x.val : Int) % 256 := by decide +kernel
def rev16S (x : Int) : Int := bits .or .u16 (IntKind.u16.wrap (Lib.rev8 (x / 256))) (IntKind.u16.wrap (IntKind.u16.wrap (Lib.rev8 (x % 256)) * 256))
theorem rev16C (x R : Int) (x0 : 0 ≤ x) (x1 : x < 4096) (hR : rev16S x = R) (w : World) :
    Calls Try.prog 34 #[.int .u16 x] w fun r w' => r = .returned (.int .u16 R) ∧ ∃ k, w' = w.drewN k := by
  have hx : x / 256 ≤ 255 := by omega
  have hx0 : 0 ≤ x / 256 := by omega
  have ha : bits .and .u16 x 255 = x % 256 := by
    have := and255 ⟨x.toNat, by omega⟩
    dsimp only at this
    rw [Int.toNat_of_nonneg x0] at this
    exact this
  subst hR
  go_enter Try.func34, Try.ntmps34
  go_upto_region 1 with fail
  go_quiet (fail)
  go_wp2_with fail
  go_ret
  exact ⟨rfl, nq, rfl⟩
theorem rev8C (x R : Int) (x0 : 0 ≤ x) (x1 : x < 256) (hR : Lib.rev8 x = R) (w : World) :
    Calls Try.prog 36 #[.int .u8 x] w fun r w' => r = .returned (.int .u8 R) ∧ w = w' := by
  have hx : x ≤ 255 := by omega
  subst hR
  go_enter Try.func36, Try.ntmps36
  go_wp2_with fail
  go_ret
  exact ⟨rfl, rfl⟩
theorem len8_bd : ∀ x : Fin 256, 0 ≤ Lib.len8 (x.val : Int) ∧ Lib.len8 (x.val : Int) ≤ 8 := by decide +kernel
theorem len64C (x : Int) (x0 : 256 ≤ x) (x1 : x < 65536) (w : World) :
    Calls Try.prog 44 #[.int .u64 x] w fun r w' => r = .returned (.int .i64 (8 + Lib.len8 (x / 256))) ∧ w' = w := by
  have h32 : ¬ (4294967296 ≤ x) := by omega
  have h16 : ¬ (65536 ≤ x) := by omega
  have h8 : 256 ≤ x := x0
  obtain ⟨y, hy⟩ : ∃ y, x / 256 = y := ⟨_, rfl⟩
  have y0 : 0 ≤ y := by omega
  have y1 : y ≤ 255 := by omega
  have hb : 0 ≤ Lib.len8 y ∧ Lib.len8 y ≤ 8 := by
    have := len8_bd ⟨y.toNat, by omega⟩
    dsimp only at this
    rw [Int.toNat_of_nonneg y0] at this
    exact this
  have hw : wrap64 (8 + Lib.len8 y) = 8 + Lib.len8 y := by unfold wrap64; omega
  have hw8 : IntKind.u8.wrap y = y := by rw [IntKind.wrap_u8]; omega
  have hs : IntKind.u64.wrap (x / 256) = y := by rw [hy]; unfold IntKind.wrap; simp [IntKind.bits, IntKind.signed]; omega
  rw [hy]
  go_enter Try.func44, Try.ntmps44
  go_wp2_with fail
  go_ret
  refine ⟨?_, rfl⟩
  show Ending.returned (.int .i64 _) = _
  simp only
theorem blenC (x : Int) (x0 : 256 ≤ x) (x1 : x < 65536) (w : World) :
    Calls Try.prog 41 #[.int .u64 x] w fun r w' => r = .returned (.int .i64 (8 + Lib.len8 (x / 256))) ∧ w' = w := by
  have H := Lib.hid (fun W => len64C x x0 x1 W)
  go_enter Try.func41, Try.ntmps41
  go_wp2_with (go_at_call 44; refine (H.out _).mono ?_; (rintro r w1 ⟨rfl, rfl⟩))
  go_ret
  exact ⟨rfl, rfl⟩
theorem wd_is : ∀ f : Fin 4097, 258 ≤ f.val → min (8 + Lib.len8 (((f.val : Int) + 1) / 256)) 12 = (wdZ f.val : Int) := by decide +kernel
theorem pwidthC (f : Nat) (h0 : 258 ≤ f) (h1 : f ≤ 4096) (w : World) :
    Calls Try.prog 31 #[.int .i64 f] w fun r w' => r = .returned (.int .i64 (wdZ f)) ∧ w = w' := by
  have H := Lib.hid (fun W => blenC ((f : Int) + 1) (by omega) (by omega) W)
  have hd := wd_is ⟨f, by omega⟩ h0
  dsimp only at hd
  obtain ⟨K, hK⟩ : ∃ K, 8 + Lib.len8 (((f : Int) + 1) / 256) = K := ⟨_, rfl⟩
  rw [hK] at H hd
  have hw : IntKind.u64.wrap ((f : Int) + 1) = (f : Int) + 1 := by unfold IntKind.wrap; simp [IntKind.bits, IntKind.signed]; omega
  have hwi : IntKind.i64.wrap ((f : Int) + 1) = (f : Int) + 1 := IntWalk.i64_in _ (by omega)
  have HD := Lib.hid hd
  clear hK hd
  go_enter Try.func31, Try.ntmps31
  go_wp2_with (go_at_call 41; refine (H.out _).mono ?_; (rintro r w1 ⟨rfl, rfl⟩))
  go_ret
  refine ⟨?_, rfl⟩
  rw [← HD.out]
  rfl
theorem highb_hiB (c : Int) : ∀ k, highb c k = hiB c k
  | 0 => rfl
  | k + 1 => by rw [highb_succ, hiB, highb_hiB c k]
theorem rev_byte : ∀ v : Fin 256, Lib.rev8 (v.val : Int) = (v.val : Int) / 2 ^ 0 % 2 * 128 + (v.val : Int) / 2 ^ 1 % 2 * 64 + (v.val : Int) / 2 ^ 2 % 2 * 32 + (v.val : Int) / 2 ^ 3 % 2 * 16 + (v.val : Int) / 2 ^ 4 % 2 * 8 + (v.val : Int) / 2 ^ 5 % 2 * 4 + (v.val : Int) / 2 ^ 6 % 2 * 2 + (v.val : Int) / 2 ^ 7 % 2 := by decide +kernel
theorem rev_bits (a : Int) (h0 : 0 ≤ a) (h1 : a < 256) : (0 ≤ Lib.rev8 a ∧ Lib.rev8 a < 256) ∧ Lib.rev8 a / 1 % 2 = a / 128 % 2 ∧ Lib.rev8 a / 2 % 2 = a / 64 % 2 ∧ Lib.rev8 a / 4 % 2 = a / 32 % 2 ∧ Lib.rev8 a / 8 % 2 = a / 16 % 2 ∧ Lib.rev8 a / 16 % 2 = a / 8 % 2 ∧ Lib.rev8 a / 32 % 2 = a / 4 % 2 ∧ Lib.rev8 a / 64 % 2 = a / 2 % 2 ∧ Lib.rev8 a / 128 % 2 = a / 1 % 2 := by
  have e := rev_byte ⟨a.toNat, by omega⟩
  dsimp only at e
  rw [Int.toNat_of_nonneg h0] at e
  simp only [Int.reducePow] at e
  obtain ⟨b0, h0⟩ : ∃ b, a / 1 % 2 = b := ⟨_, rfl⟩
  obtain ⟨b1, h1⟩ : ∃ b, a / 2 % 2 = b := ⟨_, rfl⟩
  obtain ⟨b2, h2⟩ : ∃ b, a / 4 % 2 = b := ⟨_, rfl⟩
  obtain ⟨b3, h3⟩ : ∃ b, a / 8 % 2 = b := ⟨_, rfl⟩
  obtain ⟨b4, h4⟩ : ∃ b, a / 16 % 2 = b := ⟨_, rfl⟩
  obtain ⟨b5, h5⟩ : ∃ b, a / 32 % 2 = b := ⟨_, rfl⟩
  obtain ⟨b6, h6⟩ : ∃ b, a / 64 % 2 = b := ⟨_, rfl⟩
  obtain ⟨b7, h7⟩ : ∃ b, a / 128 % 2 = b := ⟨_, rfl⟩
  rw [h0, h1, h2, h3, h4, h5, h6, h7] at e
  rw [h0, h1, h2, h3, h4, h5, h6, h7, e]
  have r0 : 0 ≤ b0 ∧ b0 ≤ 1 := by omega
  have r1 : 0 ≤ b1 ∧ b1 ≤ 1 := by omega
  have r2 : 0 ≤ b2 ∧ b2 ≤ 1 := by omega
  have r3 : 0 ≤ b3 ∧ b3 ≤ 1 := by omega
  have r4 : 0 ≤ b4 ∧ b4 ≤ 1 := by omega
  have r5 : 0 ≤ b5 ∧ b5 ≤ 1 := by omega
  have r6 : 0 ≤ b6 ∧ b6 ≤ 1 := by omega
  have r7 : 0 ≤ b7 ∧ b7 ≤ 1 := by omega
  clear h0 h1 h2 h3 h4 h5 h6 h7 e
  refine ⟨by omega, ?_, ?_, ?_, ?_, ?_, ?_, ?_, ?_⟩ <;> omega
theorem or16 (r x : Int) (r0 : 0 ≤ r) (r1 : r < 256) (x0 : 0 ≤ x) (x1 : x < 256) : bits .or .u16 r (x * 256) = r + x * 256 := by
  obtain ⟨a, rfl⟩ : ∃ a : Nat, r = a := ⟨r.toNat, by omega⟩
  obtain ⟨b, rfl⟩ : ∃ b : Nat, x = b := ⟨x.toNat, by omega⟩
  have e0 : (b : Int) * 256 = ((b * 256 : Nat) : Int) := by simp
  have f : ∀ y : Nat, y < 65536 → (BitVec.ofInt 16 (y : Int)).toNat = y := fun y hy => by
    rw [BitVec.ofInt_natCast, BitVec.toNat_ofNat]; exact Nat.mod_eq_of_lt (by omega)
  rw [e0]
  show IntKind.u16.wrap ((BitVec.ofInt 16 (a : Int) ||| BitVec.ofInt 16 ((b * 256 : Nat) : Int)).toNat : Int) = _
  rw [BitVec.toNat_or, f _ (by omega), f _ (by omega)]
  have h := Nat.two_pow_add_eq_or_of_lt (i := 8) (b := a) (by omega) b
  have e1 : a ||| b * 256 = a + b * 256 := by
    rw [Nat.or_comm, Nat.mul_comm b, ← h, Nat.add_comm]
  rw [e1, IntKind.wrap_u16]
  omega
theorem rev16_is (x : Int) (x0 : 0 ≤ x) (x1 : x < 65536) : rev16S x = Lib.rev8 (x / 256) + Lib.rev8 (x % 256) * 256 := by
  have ha := (rev_bits (x / 256) (by omega) (by omega)).1
  have hb := (rev_bits (x % 256) (by omega) (by omega)).1
  unfold rev16S
  rw [show IntKind.u16.wrap (Lib.rev8 (x / 256)) = Lib.rev8 (x / 256) by rw [IntKind.wrap_u16]; omega, show IntKind.u16.wrap (Lib.rev8 (x % 256)) = Lib.rev8 (x % 256) by rw [IntKind.wrap_u16]; omega,
    show IntKind.u16.wrap (Lib.rev8 (x % 256) * 256) = Lib.rev8 (x % 256) * 256 by rw [IntKind.wrap_u16]; omega]
  exact or16 _ _ ha.1 ha.2 hb.1 hb.2
theorem rev16_bd (x : Int) (x0 : 0 ≤ x) (x1 : x < 65536) : 0 ≤ rev16S x ∧ rev16S x ≤ 65535 := by
  have ha := (rev_bits (x / 256) (by omega) (by omega)).1
  have hb := (rev_bits (x % 256) (by omega) (by omega)).1
  rw [rev16_is x x0 x1]
  omega
theorem rev16_bit (x : Int) (x0 : 0 ≤ x) (x1 : x < 65536) (j : Nat) (hj : j < 16) : rev16S x / 2 ^ j % 2 = x / 2 ^ (15 - j) % 2 := by
  obtain ⟨ha, a0, a1, a2, a3, a4, a5, a6, a7⟩ := rev_bits (x / 256) (by omega) (by omega)
  obtain ⟨hb, b0, b1, b2, b3, b4, b5, b6, b7⟩ := rev_bits (x % 256) (by omega) (by omega)
  rw [rev16_is x x0 x1]
  obtain ⟨u, hu⟩ : ∃ u, Lib.rev8 (x / 256) = u := ⟨_, rfl⟩
  obtain ⟨v, hv⟩ : ∃ v, Lib.rev8 (x % 256) = v := ⟨_, rfl⟩
  rw [hu] at ha a0 a1 a2 a3 a4 a5 a6 a7 ⊢
  rw [hv] at hb b0 b1 b2 b3 b4 b5 b6 b7 ⊢
  clear hu hv
  obtain rfl | rfl | rfl | rfl | rfl | rfl | rfl | rfl | rfl | rfl | rfl | rfl | rfl | rfl | rfl | rfl : j = 0 ∨ j = 1 ∨ j = 2 ∨ j = 3 ∨ j = 4 ∨ j = 5 ∨ j = 6 ∨ j = 7 ∨ j = 8 ∨ j = 9 ∨ j = 10 ∨ j = 11 ∨ j = 12 ∨ j = 13 ∨ j = 14 ∨ j = 15 := by omega
  all_goals simp only [Nat.reduceSub, Int.reducePow]
  · clear a1 a2 a3 a4 a5 a6 a7 b0 b1 b2 b3 b4 b5 b6 b7; omega
  · clear a0 a2 a3 a4 a5 a6 a7 b0 b1 b2 b3 b4 b5 b6 b7; omega
  · clear a0 a1 a3 a4 a5 a6 a7 b0 b1 b2 b3 b4 b5 b6 b7; omega
  · clear a0 a1 a2 a4 a5 a6 a7 b0 b1 b2 b3 b4 b5 b6 b7; omega
  · clear a0 a1 a2 a3 a5 a6 a7 b0 b1 b2 b3 b4 b5 b6 b7; omega
  · clear a0 a1 a2 a3 a4 a6 a7 b0 b1 b2 b3 b4 b5 b6 b7; omega
  · clear a0 a1 a2 a3 a4 a5 a7 b0 b1 b2 b3 b4 b5 b6 b7; omega
  · clear a0 a1 a2 a3 a4 a5 a6 b0 b1 b2 b3 b4 b5 b6 b7; omega
  · clear a0 a1 a2 a3 a4 a5 a6 a7 b1 b2 b3 b4 b5 b6 b7; omega
  · clear a0 a1 a2 a3 a4 a5 a6 a7 b0 b2 b3 b4 b5 b6 b7; omega
  · clear a0 a1 a2 a3 a4 a5 a6 a7 b0 b1 b3 b4 b5 b6 b7; omega
  · clear a0 a1 a2 a3 a4 a5 a6 a7 b0 b1 b2 b4 b5 b6 b7; omega
  · clear a0 a1 a2 a3 a4 a5 a6 a7 b0 b1 b2 b3 b5 b6 b7; omega
  · clear a0 a1 a2 a3 a4 a5 a6 a7 b0 b1 b2 b3 b4 b6 b7; omega
  · clear a0 a1 a2 a3 a4 a5 a6 a7 b0 b1 b2 b3 b4 b5 b7; omega
  · clear a0 a1 a2 a3 a4 a5 a6 a7 b0 b1 b2 b3 b4 b5 b6; omega
theorem hiB_getD (c : Int) : ∀ k i, i < k → (hiB c k).getD i 0 = c / 2 ^ (k - 1 - i) % 2
  | k + 1, 0, _ => by simp [hiB]
  | k + 1, i + 1, h => by
    have := hiB_getD c k i (by omega)
    rw [hiB, List.getD_cons_succ, this]
    congr 3
    omega
/-- A code goes by its highest bit: turned, cut to its width. -/
theorem rev_code (x : Int) (x0 : 0 ≤ x) (x1 : x < 65536) (k : Nat) (hk : k ≤ 16) : lowb (rev16S x / 2 ^ (16 - k)) k = hiB x k := by
  apply list_eq_of_getD
  · rw [lowb_len, hiB_len]
  · intro i hi
    rw [lowb_len] at hi
    rw [lowb_getD _ _ _ hi, hiB_getD _ _ _ hi, Int.ediv_ediv_of_nonneg (by have := pow2_pos (16 - k); omega), ← Int.pow_add, rev16_bit x x0 x1 (16 - k + i) (by omega)]
    congr 3
    omega
/-- A byte of the row, its bits turned, is the byte that the codes ask. -/
theorem rev_bz8 (L : List Int) (h : B01 L) (k : Nat) : Lib.rev8 (byteB L k) = bz8 L k := by
  have hb := byteB_bd L h k
  have e := rev_byte ⟨(byteB L k).toNat, by omega⟩
  dsimp only at e
  rw [Int.toNat_of_nonneg hb.1] at e
  rw [e, byteB_bit L h k 0 (by omega), byteB_bit L h k 1 (by omega), byteB_bit L h k 2 (by omega), byteB_bit L h k 3 (by omega), byteB_bit L h k 4 (by omega), byteB_bit L h k 5 (by omega), byteB_bit L h k 6 (by omega), byteB_bit L h k 7 (by omega)]
  rfl
theorem packZ_rev (L : List Int) (h : B01 L) : packZ L = (pack L).map Lib.rev8 := by
  unfold packZ pack
  rw [List.map_map]
  refine List.map_congr_left fun k _ => ?_
  exact (rev_bz8 L h k).symm
end Go.Proofs.Ytpnnejedfccckaa
