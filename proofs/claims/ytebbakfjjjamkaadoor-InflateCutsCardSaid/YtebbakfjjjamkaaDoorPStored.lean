/- The project's own reader of blocks (package inflate): stored. -/
import Derived.Test.YtebbakfjjjamkaaDoorPFlow
import Derived.Deep.DeepCutAuto
import Derived.Deep.CutBlock
namespace Go.Proofs.YtebbakfjjjamkaaDoor
open Go.RowKit
set_option linter.unusedVariables false
set_option maxRecDepth 100000

theorem xor_turned (x y : Int) (x0 : 0 ≤ x) (x1 : x < 65536) (y0 : 0 ≤ y) (y1 : y < 65536) : bits .xor .i64 x y = 65535 ↔ x = 65535 - y := by
  obtain ⟨a, rfl⟩ : ∃ a : Nat, x = a := ⟨x.toNat, by omega⟩
  obtain ⟨b, rfl⟩ : ∃ b : Nat, y = b := ⟨y.toNat, by omega⟩
  have f : ∀ x : Nat, x < 9223372036854775808 → (BitVec.ofInt 64 (x : Int)).toNat = x := fun x hx => by
    rw [BitVec.ofInt_natCast, BitVec.toNat_ofNat]; exact Nat.mod_eq_of_lt (by omega)
  have hlt : a ^^^ b < 2 ^ 16 := Nat.xor_lt_two_pow (by omega) (by omega)
  have e : bits .xor .i64 (a : Int) (b : Int) = ((a ^^^ b : Nat) : Int) := by
    show IntKind.i64.wrap ((BitVec.ofInt 64 (a : Int) ^^^ BitVec.ofInt 64 (b : Int)).toNat : Int) = _
    rw [BitVec.toNat_xor, f _ (by omega), f _ (by omega), IntWalk.i64_in _ (by omega)]
  have key : ∀ c : Nat, c < 65536 → c ^^^ 65535 = 65535 - c := fun c hc => by
    refine Nat.eq_of_testBit_eq fun i => ?_
    rw [Nat.testBit_xor, show (65535 : Nat) = 2 ^ 16 - 1 from rfl, Nat.testBit_two_pow_sub_one, show 2 ^ 16 - 1 - c = 2 ^ 16 - (c + 1) by omega, Nat.testBit_two_pow_sub_succ (by omega)]
    by_cases hi : i < 16
    · simp [hi]
    · have : c.testBit i = false := Nat.testBit_lt_two_pow (Nat.lt_of_lt_of_le (show c < 2 ^ 16 by omega) (Nat.pow_le_pow_right (by omega) (by omega)))
      simp [hi, this]
  rw [e]
  constructor
  · intro h
    have h2 : a ^^^ b = 65535 := by omega
    have h3 : b ^^^ (a ^^^ b) = b ^^^ 65535 := by rw [h2]
    rw [Nat.xor_comm a b, ← Nat.xor_assoc, Nat.xor_self, Nat.zero_xor, key b (by omega)] at h3
    omega
  · intro h
    have h2 : a = 65535 - b := by omega
    rw [h2, ← key b (by omega), Nat.xor_assoc, Nat.xor_comm 65535 b, ← Nat.xor_assoc, Nat.xor_self, Nat.zero_xor]
    rfl

/-- So many bytes: where the reader stands then, its error, what came (the project's way: a whole byte each). -/
def pstorR (zs : List Int) (most : Nat) : Nat → Nat → List Int → Nat × Int × List Int
  | 0, k, out => (8 * k, 0, out)
  | m + 1, k, out => if zs.length ≤ k then (8 * k, 2, out) else if out.length = most then (8 * k, 7, out) else pstorR zs most m (k + 1) (out ++ [zs.getD k 0])
theorem pstor_eq (zs : List Int) (most : Nat) (hz : ∀ i, 0 ≤ zs.getD i 0 ∧ zs.getD i 0 < 256) : ∀ (m k : Nat) (out : List Int), k ≤ zs.length → out.length ≤ most →
    (pstorR zs most m k out).2.1 = (storR zs most m (8 * k) 0 out).2.1 ∧ ((pstorR zs most m k out).2.1 = 0 → pstorR zs most m k out = storR zs most m (8 * k) 0 out)
  | 0, k, out, _, _ => ⟨rfl, fun _ => rfl⟩
  | m + 1, k, out, hk, hlm => by
    rw [storR, if_pos rfl, pstorR]
    by_cases hle : zs.length ≤ k
    · have ht : takeS zs (8 * k) 0 8 = (0, 8 * k, 2) := by unfold takeS; rw [if_pos rfl, if_neg (by omega)]
      rw [if_pos hle, ht]
      have e2 : putE most out 2 = 2 := by unfold putE; rw [if_neg (by omega)]
      dsimp only
      rw [e2, storR_bad _ _ _ _ _ _ (by decide)]
      exact ⟨rfl, fun h => absurd (show (2 : Int) = 0 from h) (by decide)⟩
    · have ht : takeS zs (8 * k) 0 8 = (zs.getD k 0, 8 * (k + 1), 0) := by
        unfold takeS; rw [if_pos rfl, if_pos (by omega), pbits8 zs k (hz k), show 8 * k + 8 = 8 * (k + 1) by omega]
      rw [if_neg hle, ht]
      dsimp only
      by_cases hf : out.length = most
      · have e7 : putE most out 0 = 7 := by unfold putE; rw [if_pos ⟨rfl, by omega⟩]
        rw [if_pos hf, e7, storR_bad _ _ _ _ _ _ (by decide)]
        exact ⟨rfl, fun h => absurd (show (7 : Int) = 0 from h) (by decide)⟩
      · have e0 : putE most out 0 = 0 := by unfold putE; rw [if_neg (by omega)]
        have eo : putO most out 0 (zs.getD k 0) = out ++ [zs.getD k 0] := by unfold putO; rw [if_pos ⟨rfl, by omega⟩]
        rw [if_neg hf, e0, eo]
        exact pstor_eq zs most hz m (k + 1) _ (by omega) (by simp; omega)
/-- A whole byte, where none is begun. -/
theorem PB.byte {w w' : World} {kb kc n c k : Nat} {A : Option Addr} {zs : List Int} (h : PB w kb kc A n c zs (8 * k)) (ho : Only kc w w') (hc : Cur w' kc A n c (k + 1)) (hk : k + 1 ≤ n) : PB w' kb kc A n c zs (8 * (k + 1)) := by
  unfold PB at h ⊢
  rw [show (8 * k + 7) / 8 = k by omega] at h
  rw [show (8 * (k + 1) + 7) / 8 = k + 1 by omega]
  have hb := h.bl
  rw [Nat.sub_self] at hb
  refine ⟨hc, ?_, h.ne, Nat.le_refl _, hk⟩
  rw [Nat.sub_self]
  exact (ho.block kb h.lt h.ne).trans hb
theorem Keeps.drew {ts : Nat → Prop} {a b : World} (h : Keeps ts a b) : Keeps ts a b.drew := ⟨h.os, h.tape, h.output, h.size, h.block⟩
theorem RS.drew {w : World} {kr kb kc n c p most : Nat} {A : Option Addr} {zs out : List Int} {v fx : Value} {ts : Nat → Prop} (h : RS w kr kb kc ts A n c zs p v out most fx) : RS w.drew kr kb kc ts A n c zs p v out most fx := h.drewN 1
theorem RS.setp {w : World} {kr kb kc n c p p2 most : Nat} {A : Option Addr} {zs out : List Int} {v fx : Value} {ts : Nat → Prop} (h : RS w kr kb kc ts A n c zs p v out most fx) (e : p = p2) : RS w kr kb kc ts A n c zs p2 v out most fx := e ▸ h

set_option maxHeartbeats 2000000 in
theorem pstored (kr kb kc n c p B most : Nat) (A : Option Addr) (v fx : Value) (out zs : List Int) (ts : Nat → Prop) (w : World) (h : RS w kr kb kc ts A n c zs p v out most fx) (hb : Byt w B A n c zs) (hB : ∀ i, i < B → ts i) (hn : n ≤ 1000000) (hm : most ≤ 100000000) (hp : p ≤ 8 * n)
    (p' : Nat) (e' : Int) (out' : List Int) (hs : storedS zs most p out = (p', e', out')) :
    Calls Tryd.prog 47 #[.pointer (some ⟨kr, 0, none⟩)] w fun r w' => r = .returned (.int .i64 e') ∧ Keeps ts w w' ∧ (e' = 0 → ∃ v', RS w' kr kb kc ts A n c zs p' v' out' most fx) := by
  have H := Lib.hid h
  have hlen := hb.len
  have hbl := h.ble hB
  have HBY := Lib.hid (fun W (hW : Keeps ts w W) => hb.keeps hW hB)
  have HAL := Lib.hid (palignC kb kc n c p A zs w h.pb)
  have HTK := Lib.hid (fun W q (hW : Keeps ts w W) (hq : PB W kb kc A n c zs q) => ptakeC kb kc n c q B 16 A zs W hq (hb.keeps hW hB) hbl.1 hbl.2.1 hn)
  have h0 := h.c0
  have hq : palgn p = 8 * ((p + 7) / 8) := by unfold palgn; omega
  have hqn : palgn p ≤ 8 * n := by unfold palgn; omega
  have ha : algn p = palgn p := rfl
  unfold storedS at hs
  rw [ha] at hs
  obtain ⟨q, hqq⟩ : ∃ q, palgn p = q := ⟨_, rfl⟩
  obtain ⟨k0, hk0⟩ : ∃ k0, (p + 7) / 8 = k0 := ⟨_, rfl⟩
  rw [hk0] at hq
  rw [hqq] at HAL hq hs hqn
  dsimp only at hs
  have hbz := hb.getD
  have HBZ := Lib.hid hbz
  have HNX := Lib.hid (fun W k (hW : Keeps ts w W) (hc : Cur W kc A n c k) (hk : k < n) => next_in kc n c k B A zs W hc (hb.keeps hW hB) hk hn)
  have HNO := Lib.hid (fun W (hc : Cur W kc A n c n) => next_out kc n c A zs W hc hlen hn)
  clear h hb hB hqq hk0 ha hbl
  by_cases hfit : q + 32 ≤ 8 * n
  · have t1 : takeS zs q 0 16 = (bitsZ zs q 16, q + 16, 0) := by unfold takeS; rw [if_pos rfl, if_pos (by omega)]
    have t2 : takeS zs (q + 16) 0 16 = (bitsZ zs (q + 16) 16, q + 16 + 16, 0) := by unfold takeS; rw [if_pos rfl, if_pos (by omega)]
    have b1 := bitsZ_bd zs q 16
    have b2 := bitsZ_bd zs (q + 16) 16
    have v1 : ptakeV zs q 16 = bitsZ zs q 16 := by unfold ptakeV; rw [if_pos ⟨by omega, by omega, by omega⟩]; rfl
    have v2 : ptakeV zs (q + 16) 16 = bitsZ zs (q + 16) 16 := by unfold ptakeV; rw [if_pos ⟨by omega, by omega, by omega⟩]; rfl
    have p1 : ptakeP zs q 16 = q + 16 := by unfold ptakeP; rw [if_pos ⟨by omega, by omega, by omega⟩]; rfl
    have p2 : ptakeP zs (q + 16) 16 = q + 16 + 16 := by unfold ptakeP; rw [if_pos ⟨by omega, by omega, by omega⟩]; rfl
    rw [t1] at hs
    dsimp only at hs
    rw [t2] at hs
    dsimp only at hs
    have HT1 : Hid (∀ W, Keeps ts w W → PB W kb kc A n c zs q → Calls Tryd.prog 46 #[.pointer (some ⟨kb, 0, none⟩), .int .i64 16] W fun r w' => r = .returned (.int .i64 (bitsZ zs q 16)) ∧ PB w' kb kc A n c zs (q + 16) ∧ Only2 kb kc W w') := Lib.hid fun W hW hq => (HTK.out W q hW hq).mono fun r w' h => by rw [v1, p1] at h; exact h
    have HT2 : Hid (∀ W, Keeps ts w W → PB W kb kc A n c zs (q + 16) → Calls Tryd.prog 46 #[.pointer (some ⟨kb, 0, none⟩), .int .i64 16] W fun r w' => r = .returned (.int .i64 (bitsZ zs (q + 16) 16)) ∧ PB w' kb kc A n c zs (q + 16 + 16) ∧ Only2 kb kc W w') := Lib.hid fun W hW hq => (HTK.out W (q + 16) hW hq).mono fun r w' h => by rw [v2, p2] at h; exact h
    clear t1 t2 v1 v2 p1 p2
    obtain ⟨x, hx⟩ : ∃ x, bitsZ zs q 16 = x := ⟨_, rfl⟩
    obtain ⟨y, hy⟩ : ∃ y, bitsZ zs (q + 16) 16 = y := ⟨_, rfl⟩
    rw [hx] at HT1 hs b1
    rw [hy] at HT2 hs b2
    clear hx hy
    obtain ⟨x0, x2⟩ := b1
    obtain ⟨y0, y2⟩ := b2
    have x1 : x < 65536 := x2
    have y1 : y < 65536 := y2
    clear x2 y2
    have hxor := xor_turned x y x0 x1 y0 y1
    obtain ⟨xr, hxr⟩ : ∃ xr, bits .xor .i64 x y = xr := ⟨_, rfl⟩
    rw [hxr] at hxor
    have hy00 : ¬ y < 0 := by omega
    by_cases hbad : xr = 65535
    · have hxy := hxor.1 hbad
      rw [if_neg (fun h => h.2 hxy), show q + 16 + 16 = 8 * (k0 + 4) by omega] at hs
      obtain ⟨N, hN⟩ : ∃ N : Nat, x = N := ⟨x.toNat, by omega⟩
      rw [show x.toNat = N by omega] at hs
      have HN := Lib.hid hN
      have hpe := pstor_eq zs most HBZ.out N (k0 + 4) out (by rw [hlen]; omega) H.out.lm
      obtain ⟨pp, ee, oo, hpo⟩ : ∃ pp ee oo, pstorR zs most N (k0 + 4) out = (pp, ee, oo) := ⟨_, _, _, rfl⟩
      rw [hs, hpo] at hpe
      dsimp only at hpe
      have HPE := Lib.hid hpe
      have HPO := Lib.hid hpo
      have HLEN := Lib.hid hlen
      have HQ : Hid (q + 16 + 16 = 8 * (k0 + 4) ∧ k0 + 4 ≤ n) := Lib.hid (by omega)
      have hbb : (xr == 65535) = true := beq_iff_eq.2 hbad
      clear hpe hpo hs hxor hxy hbz hlen hq hbad hN
      go_enter Tryd.func47, Tryd.ntmps47
      go_wp2_with (go_at_call 58; refine HAL.out.mono ?_; rintro r w1 ⟨rfl, hb1, ho1⟩; have HR1 := Lib.hid (H.out.read ho1 hb1); have HK1 := Lib.hid (ho1.keeps H.out); have k1 := HR1.out.c0; clear hb1 ho1)
      go_region_with (first
        | (go_at_call 46; with_reducible refine (HT1.out _ HK1.out.drew HR1.out.drew.pb).mono ?_; rintro r w2 ⟨rfl, hb2, ho2⟩; have HR2 := Lib.hid (HR1.out.drew.read ho2 hb2); have HK2 := Lib.hid (HK1.out.drew.trans (ho2.keeps HR1.out.drew)); have k2 := HR2.out.c0; clear hb2 ho2)
        | (go_at_call 46; with_reducible refine (HT2.out _ HK2.out HR2.out.pb).mono ?_; rintro r w3 ⟨rfl, hb3, ho3⟩; have HR3 := Lib.hid (HR2.out.read ho3 hb3); have HK3 := Lib.hid (HK2.out.trans (ho3.keeps HR2.out)); have k3 := HR3.out.c0; clear hb3 ho3))
      all_goals
        go_upto_region 8 with fail
        have hN := HN.out
        clear hxr
        (try rw [show decide (y < 0) = false from decide_eq_false (by omega)])
        (try rw [show (xr != 65535) = false from by rw [bne, hbb]; rfl])
        subst hN
        go_loopw [29] (fun iv wr => ∃ (j k : Nat) (u : Value) (o : List Int), j ≤ N ∧ iv = .int .i64 j ∧ Hid (k ≤ n ∧ pstorR zs most (N - j) k o = (pp, ee, oo)) ∧ Hid (RS wr kr kb kc ts A n c zs (8 * k) u o most fx) ∧ Hid (Keeps ts w wr)) (fun iv _ => N - (intOf iv).toNat)
        case atStart => exact ⟨0, k0 + 4, v, out, Nat.zero_le _, rfl, Lib.hid ⟨HQ.out.2, HPO.out⟩, Lib.hid (HR3.out.setp HQ.out.1), HK3⟩
        case round =>
          obtain ⟨j, k, u, o, hj, rfl, HL, HR, HK⟩ := hrel
          by_cases hlt : j < N
          · have hl := HL.out
            have c0 := HR.out.c0
            have d0 := HR.out.pb.c0
            have hcur := HR.out.pb.cur
            rw [show (8 * k + 7) / 8 = k by omega] at hcur
            have hS := hl.2
            rw [show N - j = (N - (j + 1)) + 1 by omega, pstorR, HLEN.out] at hS
            by_cases hkn : n ≤ k
            · obtain rfl : k = n := by omega
              rw [if_pos (Nat.le_refl _)] at hS
              have HS := Lib.hid hS
              have HNO1 := Lib.hid (HNO.out wr hcur)
              clear hS hl hcur
              go_wp2_with (go_at_call 37; refine HNO1.out.mono ?_; rintro r w4 ⟨rfl, rfl⟩)
              go_ret
              obtain ⟨rfl, h3⟩ := Prod.mk.inj HS.out
              obtain ⟨rfl, rfl⟩ := Prod.mk.inj h3
              exact ⟨by rw [← HPE.out.1]; rfl, HK.out, fun h => absurd (HPE.out.1.trans h) (by decide)⟩
            · rw [if_neg hkn] at hS
              have hnx := HNX.out wr k HK.out hcur (by omega)
              rw [peekZ_in zs k (by rw [HLEN.out]; omega)] at hnx
              have hz := HBZ.out k
              have HKN : Hid (k + 1 ≤ n) := Lib.hid (by omega)
              have ej : IntKind.i64.wrap ((j : Int) + 1) = (j : Int) + 1 := IntWalk.i64_in _ (by omega)
              obtain ⟨z, hzz⟩ : ∃ z, zs.getD k 0 = z := ⟨_, rfl⟩
              rw [hzz] at hnx hz hS
              have hz0 : ¬ z < 0 := by omega
              have HNX1 := Lib.hid hnx
              have HZ := Lib.hid hz
              by_cases hf : o.length = most
              · rw [if_pos hf] at hS
                have HS := Lib.hid hS
                clear hS hl hcur hnx hzz hz hkn x0 x1
                go_wp2_with (first
                  | (go_at_call 37; refine HNX1.out.mono ?_; rintro r w4 ⟨rfl, hc4, ho4⟩; have HR4 := Lib.hid (HR.out.read (ho4.o2 kb) (HR.out.pb.byte ho4 hc4 HKN.out)); have HK4 := Lib.hid (HK.out.trans ((ho4.o2 kb).keeps HR.out)); clear hc4 ho4)
                  | (go_at_call 59; refine (pput_no kr kb kc n c _ most z A _ fx _ zs ts _ HR4.out hf).mono ?_; rintro r w5 ⟨rfl, k5, rfl⟩))
                go_ret
                obtain ⟨rfl, h3⟩ := Prod.mk.inj HS.out
                obtain ⟨rfl, rfl⟩ := Prod.mk.inj h3
                exact ⟨by rw [← HPE.out.1]; rfl, HK4.out.drewN _, fun h => absurd (HPE.out.1.trans h) (by decide)⟩
              · rw [if_neg hf] at hS
                have HS := Lib.hid hS
                clear hS hl hcur hnx hzz hz hkn x0 x1
                go_wp2_with (first
                  | (go_at_call 37; refine HNX1.out.mono ?_; rintro r w4 ⟨rfl, hc4, ho4⟩; have HR4 := Lib.hid (HR.out.read (ho4.o2 kb) (HR.out.pb.byte ho4 hc4 HKN.out)); have HK4 := Lib.hid (HK.out.trans ((ho4.o2 kb).keeps HR.out)); clear hc4 ho4)
                  | (go_at_call 59; refine (pput_ok kr kb kc n c _ most z A _ fx _ zs ts _ HR4.out hf HZ.out hm).mono ?_; rintro r w5 ⟨rfl, u5, hr5, hk5⟩; have HR5 := Lib.hid hr5; have HK5 := Lib.hid (HK4.out.trans hk5); clear hr5 hk5))
                go_roundw
                case rel => exact ⟨j + 1, k + 1, u5, _, by omega, by go_num, Lib.hid ⟨HKN.out, HS.out⟩, HR5, HK5⟩
                case measure => simp [intOf]; omega
          · obtain rfl : j = N := by omega
            have hS := HL.out.2
            rw [Nat.sub_self, pstorR] at hS
            have HS := Lib.hid hS
            clear hS
            go_wp2
            go_ret
            obtain ⟨rfl, h3⟩ := Prod.mk.inj HS.out
            obtain ⟨rfl, rfl⟩ := Prod.mk.inj h3
            refine ⟨by rw [← HPE.out.1]; rfl, HK.out, fun h => ⟨u, ?_⟩⟩
            have h4 := HPE.out.2 rfl
            obtain ⟨rfl, h5⟩ := Prod.mk.inj h4
            obtain ⟨_, rfl⟩ := Prod.mk.inj h5
            exact HR.out
    · have hxy : ¬ x = 65535 - y := fun h => hbad (hxor.2 h)
      rw [if_pos ⟨rfl, hxy⟩, storR_bad _ _ _ _ _ _ (by decide)] at hs
      cases hs
      have hbb : (xr == 65535) = false := beq_eq_false_iff_ne.2 hbad
      clear hxor hxy hbz hbad
      go_enter Tryd.func47, Tryd.ntmps47
      go_wp2_with (go_at_call 58; refine HAL.out.mono ?_; rintro r w1 ⟨rfl, hb1, ho1⟩; have HR1 := Lib.hid (H.out.read ho1 hb1); have HK1 := Lib.hid (ho1.keeps H.out); have k1 := HR1.out.c0; clear hb1 ho1)
      go_region_with (first
        | (go_at_call 46; with_reducible refine (HT1.out _ HK1.out.drew HR1.out.drew.pb).mono ?_; rintro r w2 ⟨rfl, hb2, ho2⟩; have HR2 := Lib.hid (HR1.out.drew.read ho2 hb2); have HK2 := Lib.hid (HK1.out.drew.trans (ho2.keeps HR1.out.drew)); have k2 := HR2.out.c0; clear hb2 ho2)
        | (go_at_call 46; with_reducible refine (HT2.out _ HK2.out HR2.out.pb).mono ?_; rintro r w3 ⟨rfl, hb3, ho3⟩; have HR3 := Lib.hid (HR2.out.read ho3 hb3); have HK3 := Lib.hid (HK2.out.trans (ho3.keeps HR2.out)); have k3 := HR3.out.c0; clear hb3 ho3))
      all_goals
        go_wp2_with fail
        go_ret
        exact ⟨rfl, HK3.out, fun h => absurd h (by decide)⟩
  · have hs2 : (p', e', out') = ((takeS zs (takeS zs q 0 16).2.1 (takeS zs q 0 16).2.2 16).2.1, 2, out) := by
      have h2 : (takeS zs (takeS zs q 0 16).2.1 (takeS zs q 0 16).2.2 16).2.2 = 2 := by
        by_cases h16 : q + 16 ≤ 8 * n
        · have t1 : takeS zs q 0 16 = (bitsZ zs q 16, q + 16, 0) := by unfold takeS; rw [if_pos rfl, if_pos (by omega)]
          rw [t1]
          unfold takeS
          rw [if_pos rfl, if_neg (by dsimp only; omega)]
        · have t1 : takeS zs q 0 16 = (0, q, 2) := by unfold takeS; rw [if_pos rfl, if_neg (by omega)]
          rw [t1]
          unfold takeS
          rw [if_neg (show ¬ (2 : Int) = 0 by decide)]
      rw [← hs, h2, if_neg (fun h => absurd h.1 (by decide)), storR_bad _ _ _ _ _ _ (by decide)]
    clear hs
    obtain ⟨V1, P1, hv1, hp1, hle⟩ : ∃ V1 P1, ptakeV zs q 16 = V1 ∧ ptakeP zs q 16 = P1 ∧ 8 * n < P1 + 16 := by
      refine ⟨_, _, rfl, rfl, ?_⟩
      unfold ptakeP
      split
      · omega
      · rename_i h; omega
    have v2 : ptakeV zs P1 16 = -1 := by unfold ptakeV; rw [if_neg (by omega)]
    have p2 : ptakeP zs P1 16 = P1 := by unfold ptakeP; rw [if_neg (by omega)]
    have HT1 : Hid (∀ W, Keeps ts w W → PB W kb kc A n c zs q → Calls Tryd.prog 46 #[.pointer (some ⟨kb, 0, none⟩), .int .i64 16] W fun r w' => r = .returned (.int .i64 V1) ∧ PB w' kb kc A n c zs P1 ∧ Only2 kb kc W w') := Lib.hid fun W hW hq => (HTK.out W q hW hq).mono fun r w' h => by rw [hv1, hp1] at h; exact h
    have HT2 : Hid (∀ W, Keeps ts w W → PB W kb kc A n c zs P1 → Calls Tryd.prog 46 #[.pointer (some ⟨kb, 0, none⟩), .int .i64 16] W fun r w' => r = .returned (.int .i64 (-1)) ∧ PB w' kb kc A n c zs P1 ∧ Only2 kb kc W w') := Lib.hid fun W hW hq => (HTK.out W P1 hW hq).mono fun r w' h => by rw [v2, p2] at h; exact h
    cases hs2
    clear v2 p2 hv1 hp1
    go_enter Tryd.func47, Tryd.ntmps47
    go_wp2_with (go_at_call 58; refine HAL.out.mono ?_; rintro r w1 ⟨rfl, hb1, ho1⟩; have HR1 := Lib.hid (H.out.read ho1 hb1); have HK1 := Lib.hid (ho1.keeps H.out); have k1 := HR1.out.c0; clear hb1 ho1)
    go_region_with (first
      | (go_at_call 46; with_reducible refine (HT1.out _ HK1.out.drew HR1.out.drew.pb).mono ?_; rintro r w2 ⟨rfl, hb2, ho2⟩; have HR2 := Lib.hid (HR1.out.drew.read ho2 hb2); have HK2 := Lib.hid (HK1.out.drew.trans (ho2.keeps HR1.out.drew)); have k2 := HR2.out.c0; clear hb2 ho2)
      | (go_at_call 46; with_reducible refine (HT2.out _ HK2.out HR2.out.pb).mono ?_; rintro r w3 ⟨rfl, hb3, ho3⟩; have HR3 := Lib.hid (HR2.out.read ho3 hb3); have HK3 := Lib.hid (HK2.out.trans (ho3.keeps HR2.out)); have k3 := HR3.out.c0; clear hb3 ho3))
    all_goals
      go_wp2_with fail
      go_ret
      exact ⟨rfl, HK3.out, fun h => absurd h (by decide)⟩
end Go.Proofs.YtebbakfjjjamkaaDoor
