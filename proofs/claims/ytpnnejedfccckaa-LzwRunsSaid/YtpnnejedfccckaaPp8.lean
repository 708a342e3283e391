/- Chapter 8, the project's row of bits within a greater struct: Put, Align, Bytes. -/
import Derived.Test.YtpnnejedfccckaaPf8
import Derived.Laws.CopyOwn
import Derived.Laws.MakeOwn
namespace Go.Proofs.Ytpnnejedfccckaa
open Go.RowKit
set_option linter.unusedVariables false
set_option maxRecDepth 100000

/-- The project's row holds the bits L. -/
structure PW (w : World) (g : Nat) (T : TypeId) (XT : List Value) (bs : List Nat) (L : List Int) : Prop where
  pr : ∃ p part, PR w g T XT bs p part ((pack L).take (L.length / 8)) (valZ (L.drop (8 * (L.length / 8)))) (L.length % 8)
  b01 : B01 L
section
variable {w w' w2 : World} {g : Nat} {T : TypeId} {XT : List Value} {bs bs' : List Nat} {L : List Int}
theorem PW.drewN (h : PW w g T XT bs L) (k : Nat) : PW (w.drewN k) g T XT bs L := by
  obtain ⟨⟨p, part, h1⟩, h2⟩ := h
  exact ⟨⟨p, part, h1.drewN k⟩, h2⟩
theorem PW.keep (h : PW w g T XT bs L) (hs : w.heap.size ≤ w'.heap.size) (hb : ∀ i, i = g ∨ i ∈ bs → w'.heap[i]? = w.heap[i]?) : PW w' g T XT bs L := by
  obtain ⟨⟨p, part, h1⟩, h2⟩ := h
  exact ⟨⟨p, part, h1.keep hs hb⟩, h2⟩
theorem PW.more (h : PW w g T XT bs L) (hb : Below w.heap.size w w') : PW w' g T XT bs L := by
  obtain ⟨⟨p, part, h1⟩, h2⟩ := h
  exact ⟨⟨p, part, h1.more hb⟩, h2⟩
theorem PW.lt (h : PW w g T XT bs L) : g < w.heap.size := by
  obtain ⟨⟨p, part, h1⟩, h2⟩ := h
  exact h1.lt
theorem PW.ne (h : PW w g T XT bs L) (b : Nat) (hb : b ∈ bs) : b ≠ g ∧ b < w.heap.size := by
  obtain ⟨⟨p, part, h1⟩, h2⟩ := h
  exact h1.ne b hb
end
/-- The first i bytes of L filled, the rest in hand. -/
def PM (w : World) (g : Nat) (T : TypeId) (XT : List Value) (bs : List Nat) (L : List Int) (i : Nat) : Prop := ∃ p part, PR w g T XT bs p part ((pack L).take i) (valZ (L.drop (8 * i))) (L.length - 8 * i)
theorem PM.done {w : World} {g : Nat} {T : TypeId} {XT : List Value} {bs : List Nat} {L : List Int} {i : Nat} (h : PM w g T XT bs L i) (h01 : B01 L) (hi : i = L.length / 8) : PW w g T XT bs L := by
  subst hi
  obtain ⟨p, part, h1⟩ := h
  rw [show L.length - 8 * (L.length / 8) = L.length % 8 by omega] at h1
  exact ⟨⟨p, part, h1⟩, h01⟩
theorem and_mask (n : Int) (k : Nat) (hk : k ≤ 16) (n0 : -9223372036854775808 ≤ n) (n1 : n ≤ 9223372036854775807) : bits .and .i64 n (2 ^ k - 1) = n % 2 ^ k := by
  show IntKind.i64.wrap ((BitVec.ofInt 64 n &&& BitVec.ofInt 64 (2 ^ k - 1)).toNat : Int) = _
  have hp : (2 : Nat) ^ k ≤ 65536 := by
    have := Nat.pow_le_pow_right (n := 2) (by omega) hk
    simpa using this
  have hp0 : 0 < (2 : Nat) ^ k := Nat.pow_pos (by omega)
  have ec : ((2 : Int) ^ k - 1) = ((2 ^ k - 1 : Nat) : Int) := by
    rw [Int.natCast_sub (by omega)]; simp
  have e2 : (BitVec.ofInt 64 ((2 : Int) ^ k - 1)).toNat = 2 ^ k - 1 := by
    rw [ec, BitVec.ofInt_natCast, BitVec.toNat_ofNat, Nat.mod_eq_of_lt (by omega)]
  have e : ((BitVec.ofInt 64 n &&& BitVec.ofInt 64 (2 ^ k - 1)).toNat : Int) = n % 2 ^ k := by
    rw [BitVec.toNat_and, e2, Nat.and_two_pow_sub_one_eq_mod, BitVec.toNat_ofInt]
    have hd : ((2 : Int) ^ k) ∣ (18446744073709551616 : Int) := by
      have : ((2 : Int) ^ 64) = 2 ^ k * 2 ^ (64 - k) := by rw [← Int.pow_add]; congr 1; omega
      exact ⟨2 ^ (64 - k), by rw [← this]; rfl⟩
    have hm := Int.emod_emod_of_dvd n hd
    have h3 : 0 ≤ n % (18446744073709551616 : Int) := Int.emod_nonneg _ (by omega)
    obtain ⟨a, ha⟩ : ∃ a : Nat, n % (18446744073709551616 : Int) = a := ⟨(n % 18446744073709551616).toNat, by omega⟩
    have h4 : (n % ((2 ^ 64 : Nat) : Int)).toNat = a := by
      rw [show ((2 ^ 64 : Nat) : Int) = 18446744073709551616 from rfl, ha]; rfl
    rw [h4, Int.natCast_emod, ← hm, ha]
    simp
  rw [e]
  have h5 := Int.emod_nonneg n (show (2 : Int) ^ k ≠ 0 by have := pow2_pos k; omega)
  have h6 := Int.emod_lt_of_pos n (pow2_pos k)
  have h7 := pow_le16 k hk
  exact IntWalk.i64_in _ (by omega)
theorem or_above (r x : Int) (m : Nat) (hm : m ≤ 16) (r0 : 0 ≤ r) (r1 : r < 2 ^ m) (x0 : 0 ≤ x) (x1 : x < 65536) : bits .or .i64 r (x * 2 ^ m) = r + x * 2 ^ m := by
  obtain ⟨a, rfl⟩ : ∃ a : Nat, r = a := ⟨r.toNat, by omega⟩
  obtain ⟨b, rfl⟩ : ∃ b : Nat, x = b := ⟨x.toNat, by omega⟩
  have h1 : a < 2 ^ m := by exact_mod_cast r1
  have hp : (2 : Nat) ^ m ≤ 65536 := by
    have := Nat.pow_le_pow_right (n := 2) (by omega) hm
    simpa using this
  have hb : b * 2 ^ m ≤ 65536 * 65536 := Nat.mul_le_mul (by omega) hp
  have e0 : (b : Int) * 2 ^ m = ((b * 2 ^ m : Nat) : Int) := by simp
  have f : ∀ y : Nat, y < 9223372036854775808 → (BitVec.ofInt 64 (y : Int)).toNat = y := fun y hy => by
    rw [BitVec.ofInt_natCast, BitVec.toNat_ofNat]; exact Nat.mod_eq_of_lt (by omega)
  rw [e0]
  show IntKind.i64.wrap ((BitVec.ofInt 64 (a : Int) ||| BitVec.ofInt 64 ((b * 2 ^ m : Nat) : Int)).toNat : Int) = _
  rw [BitVec.toNat_or, f _ (by omega), f _ (by omega)]
  have h := Nat.two_pow_add_eq_or_of_lt (i := m) (b := a) h1 b
  have e1 : a ||| b * 2 ^ m = a + b * 2 ^ m := by
    rw [Nat.or_comm, Nat.mul_comm b, ← h, Nat.add_comm]
  rw [e1, IntWalk.i64_in _ (by omega)]
  omega
def mOf (g : Nat) (w : World) : Nat := match w.cell? ⟨g, 259, none⟩ with | some (.int _ z) => z.toNat | _ => 0
theorem PR.mOf {w : World} {g : Nat} {T : TypeId} {XT : List Value} {bs : List Nat} {p : Value} {part F : List Int} {R : Int} {m : Nat} (h : PR w g T XT bs p part F R m) : mOf g w = m := by
  unfold Go.Proofs.Ytpnnejedfccckaa.mOf
  rw [h.c259]
  rfl
set_option maxHeartbeats 4000000 in
theorem pputC (g : Nat) (T : TypeId) (XT : List Value) (bs : List Nat) (L : List Int) (n width : Int) (w : World) (h : PW w g T XT bs L) (hL : L.length ≤ 700000000) (n0 : -9223372036854775808 ≤ n) (n1 : n ≤ 9223372036854775807) :
    Calls Try.prog 33 #[.pointer (some ⟨g, 0, none⟩), .int .i64 n, .int .i64 width] w fun r w' => r = .returned (.tuple #[]) ∧ ∃ bs', PW w' g T XT bs' (putB L n width) ∧ Only g w w' ∧ ∀ b, b ∈ bs' → b ∈ bs ∨ w.heap.size ≤ b := by
  unfold putB
  by_cases h1 : 1 ≤ width
  · by_cases h16 : width ≤ 16
    · rw [if_pos ⟨h1, h16⟩]
      obtain ⟨W, hW⟩ : ∃ W : Nat, width = W := ⟨width.toNat, by omega⟩
      subst hW
      have hW1 : 1 ≤ W := by omega
      have hW16 : W ≤ 16 := by omega
      have g1 : ¬ (W : Int) < 1 := by omega
      have g2 : ¬ (16 : Int) < W := by omega
      obtain ⟨⟨p, part, hpr⟩, hb01⟩ := h
      have c258 := hpr.c258
      have c259 := hpr.c259
      have f258 := hpr.fr 258
      have f259 := hpr.fr 259
      obtain ⟨Q, hQ⟩ : ∃ Q, L.length / 8 = Q := ⟨_, rfl⟩
      obtain ⟨M, hM⟩ : ∃ M, L.length % 8 = M := ⟨_, rfl⟩
      rw [hQ] at c258 hpr
      rw [hM] at c259 hpr
      have hM8 : M < 8 := by omega
      have hRb := valZ_bd (L.drop (8 * Q)) (hb01.drop _)
      rw [List.length_drop, show L.length - 8 * Q = M by omega] at hRb
      have hmk := and_mask n W hW16 n0 n1
      have hx0 := Int.emod_nonneg n (show (2 : Int) ^ W ≠ 0 by have := pow2_pos W; omega)
      have hx1 := Int.emod_lt_of_pos n (pow2_pos W)
      have hp16 := pow_le16 W hW16
      have hor := or_above (valZ (L.drop (8 * Q))) (n % 2 ^ W) M (by omega) hRb.1 hRb.2 hx0 (by omega)
      have h01' : B01 (L ++ lowb n W) := hb01.app (lowb_01 _ _)
      have hval : valZ ((L ++ lowb n W).drop (8 * Q)) = valZ (L.drop (8 * Q)) + n % 2 ^ W * 2 ^ M := by
        rw [List.drop_append_of_le_length (by omega), valZ_app, valZ_lowb, List.length_drop, show L.length - 8 * Q = M by omega, Int.mul_comm]
      have htk : (pack (L ++ lowb n W)).take Q = (pack L).take Q := pack_app_take L _ Q (by omega)
      have hln : (L ++ lowb n W).length = L.length + W := by rw [List.length_append, lowb_len]
      obtain ⟨N, hN⟩ : ∃ N, L ++ lowb n W = N := ⟨_, rfl⟩
      rw [hN] at h01' hval htk hln
      obtain ⟨R, hR⟩ : ∃ R, valZ (L.drop (8 * Q)) = R := ⟨_, rfl⟩
      rw [hR] at c258 hpr hor hval hRb
      obtain ⟨x, hx⟩ : ∃ x, n % 2 ^ W = x := ⟨_, rfl⟩
      rw [hx] at hmk hor hval hx0 hx1
      obtain ⟨Y, hY⟩ : ∃ Y, R + x * 2 ^ M = Y := ⟨_, rfl⟩
      rw [hY] at hor hval
      -- behind the rest and the count
      have HST : Hid (∀ z y, z = Y → y = (M : Int) + W → PM (((w.drewN 1).setCell ⟨g, 258, none⟩ (.int .i64 z)).setCell ⟨g, 259, none⟩ (.int .i64 y)) g T XT bs N Q ∧ Only g w (((w.drewN 1).setCell ⟨g, 258, none⟩ (.int .i64 z)).setCell ⟨g, 259, none⟩ (.int .i64 y))) := Lib.hid fun z y hz hy => by
        refine ⟨⟨p, part, ?_⟩, (((Only.refl g w).drewN 1).set_ _ _).set_ _ _⟩
        have h2 := ((hpr.drewN 1).setR z).setM (M + W) y (by omega)
        rw [htk, hval, hln, show L.length + W - 8 * Q = M + W by omega, ← hz]
        exact h2
      have h128 : (2 : Int) ^ M ≤ 128 ∧ 1 ≤ (2 : Int) ^ M := by
        have : ∀ r : Fin 8, (2 : Int) ^ r.val ≤ 128 ∧ 1 ≤ (2 : Int) ^ r.val := by decide
        exact this ⟨M, hM8⟩
      have hxm : 0 ≤ x * 2 ^ M ∧ x * 2 ^ M ≤ 8388608 := by
        have a1 : x * 2 ^ M ≤ 65536 * 128 := Int.mul_le_mul (by omega) h128.1 (by omega) (by omega)
        exact ⟨Int.mul_nonneg hx0 (by omega), by omega⟩
      have w1 : IntKind.i64.wrap ((2 : Int) ^ W) = 2 ^ W := IntWalk.i64_in _ (by omega)
      have w2 : IntKind.i64.wrap ((2 : Int) ^ W - 1) = 2 ^ W - 1 := IntWalk.i64_in _ (by omega)
      have w3 : IntKind.i64.wrap (x * 2 ^ M) = x * 2 ^ M := IntWalk.i64_in _ (by omega)
      have w4 : wrap64 (x * 2 ^ M) = x * 2 ^ M := by unfold wrap64; omega
      have HN := Lib.hid hN
      have H01 := Lib.hid h01'
      have HLN : Hid (N.length = L.length + W ∧ 8 * Q ≤ L.length ∧ L.length < 8 * Q + 8) := Lib.hid (by omega)
      have hMW : (M : Int) < 8 := by omega
      clear hpr hb01 hQ hM hRb hx0 hx1 h01' hval htk hln hN hR hx h1 h16 h128 hxm hY hp16
      go_enter Try.func33, Try.ntmps33
      go_upto_region 1 with fail
      go_still_tail 17, (by kernel_rfl)
      change wpList _ _ _ _ _ (w.drewN 1)
      go_upto_region 3 with fail
      have hst := HST.out Y ((M : Int) + W) rfl rfl
      obtain ⟨W1, hW1⟩ : ∃ W1, ((w.drewN 1).setCell ⟨g, 258, none⟩ (.int .i64 Y)).setCell ⟨g, 259, none⟩ (.int .i64 ((M : Int) + W)) = W1 := ⟨_, rfl⟩
      rw [hW1] at hst ⊢
      have HPM := Lib.hid hst.1
      have HON := Lib.hid hst.2
      clear hst hW1 HST c258 c259 f258 f259
      go_loopw [41] (fun a41 wr => ∃ (i : Nat) (bs' : List Nat), Hid (Q ≤ i ∧ 8 * i ≤ N.length) ∧ Hid (PM wr g T XT bs' N i) ∧ Hid (Only g w wr) ∧ Hid (∀ b, b ∈ bs' → b ∈ bs ∨ w.heap.size ≤ b)) (fun _ wr => mOf g wr)
      case atStart => exact ⟨Q, bs, Lib.hid ⟨Nat.le_refl _, by have := HLN.out; omega⟩, HPM, HON, Lib.hid fun b hb => .inl hb⟩
      case round =>
        obtain ⟨i, bs', HI, HP, HO, HBS⟩ := hrel
        obtain ⟨p1, part1, h1⟩ := HP.out
        have hI := HI.out
        have hLN := HLN.out
        have c259 := h1.c259
        have c258 := h1.c258
        obtain ⟨m, hm⟩ : ∃ m, N.length - 8 * i = m := ⟨_, rfl⟩
        obtain ⟨R1, hR1⟩ : ∃ R1, valZ (N.drop (8 * i)) = R1 := ⟨_, rfl⟩
        rw [hm] at c259 h1
        rw [hR1] at c258 h1
        have HMM := Lib.hid hm
        by_cases h8 : 8 ≤ m
        · have hRb := valZ_bd (N.drop (8 * i)) (H01.out.drop _)
          rw [List.length_drop, hm, hR1] at hRb
          have hpm : (2 : Int) ^ m ≤ 16777216 := by
            have : ∀ r : Fin 25, (2 : Int) ^ r.val ≤ 16777216 := by decide
            exact this ⟨m, by omega⟩
          have hcb := byteB_bd N H01.out i
          have hcv : R1 % 256 = byteB N i := by
            unfold byteB
            rw [valZ_take _ (H01.out.drop _), hR1]; rfl
          have hdv : valZ (N.drop (8 * (i + 1))) = R1 / 256 := by
            rw [show 8 * (i + 1) = 8 * i + 8 by omega, ← List.drop_drop, valZ_drop _ (H01.out.drop _), hR1]; rfl
          obtain ⟨c, hc⟩ : ∃ c, byteB N i = c := ⟨_, rfl⟩
          rw [hc] at hcb hcv
          have htk : (pack N).take (i + 1) = (pack N).take i ++ [c] := by
            rw [take_snocZ (pack N) i (by rw [pack_len]; omega), pack_getD, hc]
          have hpl : ((pack N).take i).length = i := by rw [List.length_take, pack_len]; omega
          have HF := Lib.hid (fillC g T XT bs' p1 part1 _ R1 c m wr h1 hcb (by rw [hpl]; omega))
          have hwc : IntKind.u8.wrap R1 = c := by rw [wrap_u8_mod]; exact hcv
          have HEND : Hid (∀ W bs2 p2 part2 z y, PR W g T XT bs2 p2 part2 ((pack N).take i ++ [c]) R1 m → z = R1 / 256 → y = (m : Int) - 8 → PM ((W.setCell ⟨g, 258, none⟩ (.int .i64 z)).setCell ⟨g, 259, none⟩ (.int .i64 y)) g T XT bs2 N (i + 1)) := Lib.hid fun W bs2 p2 part2 z y hp hz hy => by
            refine ⟨p2, part2, ?_⟩
            rw [htk, hdv, show N.length - 8 * (i + 1) = m - 8 by omega, ← hz]
            exact (hp.setR z).setM (m - 8) y (by omega)
          have hm8 : (8 : Int) ≤ m := by omega
          have hmb : (m : Int) ≤ 24 := by omega
          have hR0 := hRb.1
          have hR24 : R1 ≤ 16777216 := by omega
          have HI2 : Hid (Q ≤ i + 1 ∧ 8 * (i + 1) ≤ N.length) := Lib.hid (by omega)
          clear h1 hI hLN hm hR1 hRb hpm hcb hcv hdv hc htk hpl h8
          go_upto_region 5 with (go_at_call 42; refine HF.out.mono ?_; rintro r w2 ⟨rfl, bs2, p2, part2, hp2, ho2, hb2⟩; have d258 := hp2.c258; have d259 := hp2.c259; have e258 := hp2.fr 258; have e259 := hp2.fr 259; have HP2 := Lib.hid hp2; have HO2 := Lib.hid (HO.out.trans ho2); have HB2 := Lib.hid (fun b hb => (hb2 b hb).elim (fun h => HBS.out b h) (fun h => .inr (Nat.le_trans HO.out.size h)) : ∀ b, b ∈ bs2 → b ∈ bs ∨ w.heap.size ≤ b); clear hp2 ho2 hb2)
          clear c258 c259
          go_wp2_with fail
          go_roundw
          case rel => exact ⟨i + 1, bs2, HI2, Lib.hid (HEND.out _ _ _ _ _ _ HP2.out rfl rfl), Lib.hid ((HO2.out.set_ _ _).set_ _ _), HB2⟩
          case measure =>
            obtain ⟨pa, paa, hpa⟩ := HEND.out _ _ _ _ _ _ HP2.out rfl rfl
            obtain ⟨pb, pbb, hpb⟩ := HP.out
            rw [hpa.mOf, hpb.mOf]
            have := HMM.out
            omega
        · have HD := Lib.hid (PM.done HP.out H01.out (by omega : i = N.length / 8))
          have hm8 : ¬ (8 : Int) ≤ m := by omega
          clear h1 hI hLN hm hR1 h8
          go_wp2_with fail
          (try simp only [Exit.inBlock, Exit.then])
          refine ⟨rfl, _, results_none rfl _ _ _, ?_⟩
          exact ⟨rfl, bs', by rw [HN.out]; exact HD.out, HO.out, HBS.out⟩
    · rw [if_neg (fun hh => h16 hh.2)]
      have HH := Lib.hid h
      clear h
      go_enter Try.func33, Try.ntmps33
      go_wp2_with fail
      (try simp only [Exit.inBlock, Exit.then])
      refine ⟨rfl, _, results_none rfl _ _ _, ?_⟩
      exact ⟨rfl, bs, HH.out, Only.refl _ _, fun b hb => .inl hb⟩
  · rw [if_neg (fun hh => h1 hh.1)]
    have HH := Lib.hid h
    clear h
    go_enter Try.func33, Try.ntmps33
    go_wp2_with fail
    (try simp only [Exit.inBlock, Exit.then])
    refine ⟨rfl, _, results_none rfl _ _ _, ?_⟩
    exact ⟨rfl, bs, HH.out, Only.refl _ _, fun b hb => .inl hb⟩
end Go.Proofs.Ytpnnejedfccckaa
