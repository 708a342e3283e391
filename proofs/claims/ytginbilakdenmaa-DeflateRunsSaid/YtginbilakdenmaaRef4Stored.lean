/- The document's own flow (chapter 4): stored. -/
import Derived.Test.YtginbilakdenmaaRef4Len
namespace Go.Proofs.Ytginbilakdenmaa
open Go.RowKit
set_option linter.unusedVariables false
set_option maxRecDepth 100000

theorem Byt.keeps {w w' : World} {B n c : Nat} {ts : Nat → Prop} {A : Option Addr} {zs : List Int} (h : Byt w B A n c zs) (hk : Keeps ts w w') (hB : ∀ i, i < B → ts i) : Byt w' B A n c zs :=
  h.below (B' := B) ⟨hk.os, hk.tape, hk.output, hk.size, fun i hi => hk.block i (hB i hi)⟩ (Nat.le_refl _)
theorem xor_all (m : Int) (m0 : 0 ≤ m) (m1 : m < 65536) : bits .xor .i64 m 65535 = 65535 - m := by
  obtain ⟨a, rfl⟩ : ∃ a : Nat, m = a := ⟨m.toNat, by omega⟩
  have f : ∀ x : Nat, x < 9223372036854775808 → (BitVec.ofInt 64 (x : Int)).toNat = x := fun x hx => by
    rw [BitVec.ofInt_natCast, BitVec.toNat_ofNat]; exact Nat.mod_eq_of_lt (by omega)
  have key : a ^^^ 65535 = 65535 - a := by
    refine Nat.eq_of_testBit_eq fun i => ?_
    rw [Nat.testBit_xor, show (65535 : Nat) = 2 ^ 16 - 1 from rfl, Nat.testBit_two_pow_sub_one, show 2 ^ 16 - 1 - a = 2 ^ 16 - (a + 1) by omega, Nat.testBit_two_pow_sub_succ (by omega)]
    by_cases hi : i < 16
    · simp [hi]
    · have : a.testBit i = false := Nat.testBit_lt_two_pow (Nat.lt_of_lt_of_le (show a < 2 ^ 16 by omega) (Nat.pow_le_pow_right (by omega) (by omega)))
      simp [hi, this]
  rw [show (65535 : Int) = ((65535 : Nat) : Int) from rfl]
  show IntKind.i64.wrap ((BitVec.ofInt 64 (a : Int) ^^^ BitVec.ofInt 64 ((65535 : Nat) : Int)).toNat : Int) = _
  rw [BitVec.toNat_xor, f _ (by omega), f _ (by omega), key, IntWalk.i64_in _ (by omega)]
  omega

/-- So many bytes: where the reader stands then, its error, what came. -/
def storR (zs : List Int) (most : Nat) : Nat → Nat → Int → List Int → Nat × Int × List Int
  | 0, p, e, out => (p, e, out)
  | k + 1, p, e, out => if e = 0 then storR zs most k (takeS zs p e 8).2.1 (putE most out (takeS zs p e 8).2.2) (putO most out (takeS zs p e 8).2.2 (takeS zs p e 8).1) else (p, e, out)
def algn (p : Nat) : Nat := (p + 7) / 8 * 8
def storedS (zs : List Int) (most p : Nat) (out : List Int) : Nat × Int × List Int :=
  let a := takeS zs (algn p) 0 16
  let b := takeS zs a.2.1 a.2.2 16
  storR zs most a.1.toNat b.2.1 (if b.2.2 = 0 ∧ a.1 ≠ 65535 - b.1 then 4 else b.2.2) out

theorem storR_bad (zs : List Int) (most : Nat) (k p : Nat) (e : Int) (out : List Int) (he : ¬ e = 0) : storR zs most k p e out = (p, e, out) := by
  cases k with
  | zero => rfl
  | succ k => rw [storR, if_neg he]

set_option maxRecDepth 100000 in
set_option maxHeartbeats 1000000 in
theorem storedC (k g n c p B most : Nat) (A : Option Addr) (v : Value) (out zs : List Int) (ts : Nat → Prop) (w : World) (h : FS w k g ts A n c p 0 v out most) (hb : Byt w B A n c zs) (hB : ∀ i, i < B → ts i) (hn : n ≤ 100000000) (hm : most ≤ 100000000) (hp : p ≤ 8 * n) (p' : Nat) (e' : Int) (out' : List Int) (hs : storedS zs most p out = (p', e', out')) :
    Calls Try.prog 45 #[.pointer (some ⟨k, 0, none⟩)] w fun r w' => r = .returned (.tuple #[]) ∧ ∃ v', FS w' k g ts A n c p' e' v' out' most ∧ Keeps ts w w' := by
  have hBg : B ≤ g := Nat.le_of_not_lt fun hlt => h.tg (hB g hlt)
  have HLEN := Lib.hid hb.len
  unfold storedS at hs
  obtain ⟨q, hq⟩ : ∃ q, algn p = q := ⟨_, rfl⟩
  rw [hq] at hs
  unfold algn at hq
  have hqn : q ≤ 8 * n := by omega
  obtain ⟨N, p2, e2, ht1⟩ : ∃ N p2 e2, takeS zs q 0 16 = (N, p2, e2) := ⟨_, _, _, rfl⟩
  have hp2 := (takeS_p zs q 0 16 (by rw [hb.len]; exact hqn)).1
  have hN := takeS_v zs q 0 16
  rw [ht1] at hs hp2 hN
  rw [hb.len] at hp2
  obtain ⟨M, p3, e3, ht2⟩ : ∃ M p3 e3, takeS zs p2 e2 16 = (M, p3, e3) := ⟨_, _, _, rfl⟩
  have hp3 := (takeS_p zs p2 e2 16 (by rw [hb.len]; exact hp2)).1
  have hM := takeS_v zs p2 e2 16
  rw [hb.len] at hp3
  dsimp only at hs hp2 hN
  rw [ht2] at hs hp3 hM
  dsimp only at hs hp3 hM
  have hx := xor_all M hM.1 (by have := hM.2; omega)
  obtain ⟨K, rfl⟩ : ∃ K : Nat, N = K := ⟨N.toNat, by omega⟩
  rw [Int.toNat_natCast] at hs
  have hK : K < 65536 := by have := hN.2; omega
  have H := Lib.hid h
  have HT := Lib.hid (fun W v out p e m y q d (hW : Keeps ts w W) (h : FS W k g ts A n c p e v out most) (hp : p ≤ 8 * n) (hm : m ≤ 16) hs => takeC g n c p B m e A zs W h.bs (hb.keeps hW hB) hBg hn hm hp y q d hs)
  have h0 := h.c0
  have h1 := h.bs.c1
  have hfg := h.bs.fr 1
  have ehq : ((p : Int) + 7) / 8 * 8 = q := by omega
  have hp8 : (p : Int) ≤ 800000000 := by omega
  have HS := Lib.hid hs
  have H1 := Lib.hid ht1
  have H2 := Lib.hid ht2
  clear h hb hq ht1 ht2 hs hM hN
  go_enter Try.func45, Try.ntmps45
  go_wp2
  go_region
  have HF1 : Hid (FS (w.setCell ⟨g, 1, none⟩ (.int .i64 q)).drew k g ts A n c q 0 v out most) := Lib.hid ((H.out.read ((Only.refl _ _).set_ _ _) (H.out.bs.seek q q rfl)).drewN 1)
  have HK1 : Hid (Keeps ts w (w.setCell ⟨g, 1, none⟩ (.int .i64 q)).drew) := Lib.hid ((((Only.refl _ _).set_ _ _).keeps H.out.tg H.out.tb).drewN 1)
  have HQN := Lib.hid hqn
  have HP2 := Lib.hid hp2
  have HP3 := Lib.hid hp3
  have k0 := HF1.out.c0
  clear h0 h1 hfg ehq hqn hp2 hp3 hp8
  by_cases he3 : e3 = 0
  · subst he3
    by_cases hne : (K : Int) = 65535 - M
    · have hxe : ((K : Int) != 65535 - M) = false := by rw [hne]; simp
      have HS4 : Hid (storR zs most K p3 0 out = (p', e', out')) := Lib.hid (by have := HS.out; rw [if_neg (fun h => h.2 hne)] at this; exact this)
      clear hne
      go_wp2_with (first
        | (go_at_call 44; refine (HT.out _ v out q 0 16 K p2 e2 HK1.out HF1.out HQN.out (by omega) H1.out).mono ?_; rintro r w2 ⟨rfl, hb2, ho2⟩; have HF2 := Lib.hid (HF1.out.read ho2 hb2); have HK2 := Lib.hid (HK1.out.trans (ho2.keeps HF1.out.tg HF1.out.tb)); have k02 := HF2.out.c0; clear hb2 ho2)
        | (go_at_call 44; refine (HT.out _ v out p2 e2 16 M p3 _ HK2.out HF2.out HP2.out (by omega) H2.out).mono ?_; rintro r w3 ⟨rfl, hb3, ho3⟩; have HF3 := Lib.hid (HF2.out.read ho3 hb3); have HK3 := Lib.hid (HK2.out.trans (ho3.keeps HF2.out.tg HF2.out.tb)); have k03 := HF3.out.c0; have k23 := HF3.out.bs.c2; clear hb3 ho3))
      have HF4 := Lib.hid HF3.out
      have HK4 := Lib.hid HK3.out
      clear k0 k02 k03 k23
      go_loopw [4] (fun i wr => ∃ (j q : Nat) (e : Int) (v : Value) (out : List Int), j ≤ K ∧ i = .int .i64 j ∧ Hid (storR zs most (K - j) q e out = (p', e', out')) ∧ Hid (q ≤ 8 * n) ∧ Hid (FS wr k g ts A n c q e v out most) ∧ Hid (Keeps ts w wr)) (fun i _ => K - (intOf i).toNat)
      case atStart => exact ⟨0, p3, _, v, out, Nat.zero_le _, rfl, HS4, HP3, HF4, HK4⟩
      case round =>
        obtain ⟨j, q, e, v, out, hj, rfl, HR, HQ, HF, HKP⟩ := hrel
        have k0 := HF.out.c0
        have k2 := HF.out.bs.c2
        by_cases hlt : j < K
        · by_cases he : e = 0
          · subst he
            obtain ⟨y, q2, d, ht⟩ : ∃ y q2 d, takeS zs q 0 8 = (y, q2, d) := ⟨_, _, _, rfl⟩
            have HTK1 := Lib.hid (HT.out _ v out q 0 8 y q2 d HKP.out HF.out HQ.out (by omega) ht)
            have hR := HR.out
            rw [show K - j = (K - (j + 1)) + 1 by omega, storR, if_pos rfl, ht] at hR
            have hq2 := (takeS_p zs q 0 8 (by rw [HLEN.out]; exact HQ.out)).1
            have hy := takeS_v zs q 0 8
            rw [ht, HLEN.out] at hq2
            rw [ht] at hy
            dsimp only at hR hq2 hy
            have HR2 := Lib.hid hR
            have HQ2 := Lib.hid hq2
            have hy2 : 0 ≤ y ∧ y < 256 := hy
            clear hR hq2 hy ht
            go_wp2_with (first
              | (go_at_call 44; refine HTK1.out.mono ?_; rintro r w2 ⟨rfl, hb2, ho2⟩; have HF2 := Lib.hid (HF.out.read ho2 hb2); have HKP2 := Lib.hid (HKP.out.trans (ho2.keeps HF.out.tg HF.out.tb)); clear hb2 ho2)
              | (go_at_call 55; refine (putC k g n c _ most _ y A _ _ ts _ HF2.out hy2 hm).mono ?_; rintro r w3 ⟨rfl, v3, hf3, hk3⟩; have HF3 := Lib.hid hf3; have HKP3 := Lib.hid (HKP2.out.trans hk3); clear hf3 hk3))
            go_roundw
            case rel => exact ⟨j + 1, q2, _, v3, _, by omega, by go_num, HR2, HQ2, HF3, HKP3⟩
            case measure => simp [intOf]; omega
          · have hz : (e == 0) = false := beq_eq_false_iff_ne.2 he
            have HR2 : Hid ((q, e, out) = (p', e', out')) := Lib.hid (by rw [← storR_bad zs most (K - j) q e out he]; exact HR.out)
            clear he
            go_wp2
            (try simp only [Exit.inBlock, Exit.then])
            refine ⟨rfl, _, results_none rfl _ _ _, ?_⟩
            obtain ⟨rfl, h3⟩ := Prod.mk.inj HR2.out
            obtain ⟨rfl, rfl⟩ := Prod.mk.inj h3
            exact ⟨rfl, _, HF.out, HKP.out⟩
        · obtain rfl : j = K := by omega
          have HR2 : Hid ((q, e, out) = (p', e', out')) := Lib.hid (by have := HR.out; rw [Nat.sub_self] at this; exact this)
          go_wp2
          (try simp only [Exit.inBlock, Exit.then])
          refine ⟨rfl, _, results_none rfl _ _ _, ?_⟩
          obtain ⟨rfl, h3⟩ := Prod.mk.inj HR2.out
          obtain ⟨rfl, rfl⟩ := Prod.mk.inj h3
          exact ⟨rfl, _, HF.out, HKP.out⟩
    · have hxe : ((K : Int) != 65535 - M) = true := by simpa using hne
      have HS4 : Hid (storR zs most K p3 4 out = (p', e', out')) := Lib.hid (by have := HS.out; rw [if_pos ⟨rfl, hne⟩] at this; exact this)
      clear hne
      go_wp2_with (first
        | (go_at_call 44; refine (HT.out _ v out q 0 16 K p2 e2 HK1.out HF1.out HQN.out (by omega) H1.out).mono ?_; rintro r w2 ⟨rfl, hb2, ho2⟩; have HF2 := Lib.hid (HF1.out.read ho2 hb2); have HK2 := Lib.hid (HK1.out.trans (ho2.keeps HF1.out.tg HF1.out.tb)); have k02 := HF2.out.c0; clear hb2 ho2)
        | (go_at_call 44; refine (HT.out _ v out p2 e2 16 M p3 _ HK2.out HF2.out HP2.out (by omega) H2.out).mono ?_; rintro r w3 ⟨rfl, hb3, ho3⟩; have HF3 := Lib.hid (HF2.out.read ho3 hb3); have HK3 := Lib.hid (HK2.out.trans (ho3.keeps HF2.out.tg HF2.out.tb)); have k03 := HF3.out.c0; have k23 := HF3.out.bs.c2; clear hb3 ho3)
        | (go_at_call 48; refine (fail_first g n c p3 4 A _ HF3.out.bs).mono ?_; rintro r w4 ⟨rfl, hb4, ho4⟩; have HF4 := Lib.hid (HF3.out.read ho4 hb4); have HK4 := Lib.hid (HK3.out.trans (ho4.keeps HF3.out.tg HF3.out.tb)); clear hb4 ho4))
      clear k0 k02 k03 k23
      go_loopw [4] (fun i wr => ∃ (j q : Nat) (e : Int) (v : Value) (out : List Int), j ≤ K ∧ i = .int .i64 j ∧ Hid (storR zs most (K - j) q e out = (p', e', out')) ∧ Hid (q ≤ 8 * n) ∧ Hid (FS wr k g ts A n c q e v out most) ∧ Hid (Keeps ts w wr)) (fun i _ => K - (intOf i).toNat)
      case atStart => exact ⟨0, p3, _, v, out, Nat.zero_le _, rfl, HS4, HP3, HF4, HK4⟩
      case round =>
        obtain ⟨j, q, e, v, out, hj, rfl, HR, HQ, HF, HKP⟩ := hrel
        have k0 := HF.out.c0
        have k2 := HF.out.bs.c2
        by_cases hlt : j < K
        · by_cases he : e = 0
          · subst he
            obtain ⟨y, q2, d, ht⟩ : ∃ y q2 d, takeS zs q 0 8 = (y, q2, d) := ⟨_, _, _, rfl⟩
            have HTK1 := Lib.hid (HT.out _ v out q 0 8 y q2 d HKP.out HF.out HQ.out (by omega) ht)
            have hR := HR.out
            rw [show K - j = (K - (j + 1)) + 1 by omega, storR, if_pos rfl, ht] at hR
            have hq2 := (takeS_p zs q 0 8 (by rw [HLEN.out]; exact HQ.out)).1
            have hy := takeS_v zs q 0 8
            rw [ht, HLEN.out] at hq2
            rw [ht] at hy
            dsimp only at hR hq2 hy
            have HR2 := Lib.hid hR
            have HQ2 := Lib.hid hq2
            have hy2 : 0 ≤ y ∧ y < 256 := hy
            clear hR hq2 hy ht
            go_wp2_with (first
              | (go_at_call 44; refine HTK1.out.mono ?_; rintro r w2 ⟨rfl, hb2, ho2⟩; have HF2 := Lib.hid (HF.out.read ho2 hb2); have HKP2 := Lib.hid (HKP.out.trans (ho2.keeps HF.out.tg HF.out.tb)); clear hb2 ho2)
              | (go_at_call 55; refine (putC k g n c _ most _ y A _ _ ts _ HF2.out hy2 hm).mono ?_; rintro r w3 ⟨rfl, v3, hf3, hk3⟩; have HF3 := Lib.hid hf3; have HKP3 := Lib.hid (HKP2.out.trans hk3); clear hf3 hk3))
            go_roundw
            case rel => exact ⟨j + 1, q2, _, v3, _, by omega, by go_num, HR2, HQ2, HF3, HKP3⟩
            case measure => simp [intOf]; omega
          · have hz : (e == 0) = false := beq_eq_false_iff_ne.2 he
            have HR2 : Hid ((q, e, out) = (p', e', out')) := Lib.hid (by rw [← storR_bad zs most (K - j) q e out he]; exact HR.out)
            clear he
            go_wp2
            (try simp only [Exit.inBlock, Exit.then])
            refine ⟨rfl, _, results_none rfl _ _ _, ?_⟩
            obtain ⟨rfl, h3⟩ := Prod.mk.inj HR2.out
            obtain ⟨rfl, rfl⟩ := Prod.mk.inj h3
            exact ⟨rfl, _, HF.out, HKP.out⟩
        · obtain rfl : j = K := by omega
          have HR2 : Hid ((q, e, out) = (p', e', out')) := Lib.hid (by have := HR.out; rw [Nat.sub_self] at this; exact this)
          go_wp2
          (try simp only [Exit.inBlock, Exit.then])
          refine ⟨rfl, _, results_none rfl _ _ _, ?_⟩
          obtain ⟨rfl, h3⟩ := Prod.mk.inj HR2.out
          obtain ⟨rfl, rfl⟩ := Prod.mk.inj h3
          exact ⟨rfl, _, HF.out, HKP.out⟩
  · have hz : (e3 == 0) = false := beq_eq_false_iff_ne.2 he3
    have HS4 : Hid (storR zs most K p3 e3 out = (p', e', out')) := Lib.hid (by have := HS.out; rw [if_neg (fun h => he3 h.1)] at this; exact this)
    clear he3
    go_wp2_with (first
      | (go_at_call 44; refine (HT.out _ v out q 0 16 K p2 e2 HK1.out HF1.out HQN.out (by omega) H1.out).mono ?_; rintro r w2 ⟨rfl, hb2, ho2⟩; have HF2 := Lib.hid (HF1.out.read ho2 hb2); have HK2 := Lib.hid (HK1.out.trans (ho2.keeps HF1.out.tg HF1.out.tb)); have k02 := HF2.out.c0; clear hb2 ho2)
      | (go_at_call 44; refine (HT.out _ v out p2 e2 16 M p3 _ HK2.out HF2.out HP2.out (by omega) H2.out).mono ?_; rintro r w3 ⟨rfl, hb3, ho3⟩; have HF3 := Lib.hid (HF2.out.read ho3 hb3); have HK3 := Lib.hid (HK2.out.trans (ho3.keeps HF2.out.tg HF2.out.tb)); have k03 := HF3.out.c0; have k23 := HF3.out.bs.c2; clear hb3 ho3))
    have HF4 := Lib.hid HF3.out
    have HK4 := Lib.hid HK3.out
    clear k0 k02 k03 k23 hz
    go_loopw [4] (fun i wr => ∃ (j q : Nat) (e : Int) (v : Value) (out : List Int), j ≤ K ∧ i = .int .i64 j ∧ Hid (storR zs most (K - j) q e out = (p', e', out')) ∧ Hid (q ≤ 8 * n) ∧ Hid (FS wr k g ts A n c q e v out most) ∧ Hid (Keeps ts w wr)) (fun i _ => K - (intOf i).toNat)
    case atStart => exact ⟨0, p3, _, v, out, Nat.zero_le _, rfl, HS4, HP3, HF4, HK4⟩
    case round =>
      obtain ⟨j, q, e, v, out, hj, rfl, HR, HQ, HF, HKP⟩ := hrel
      have k0 := HF.out.c0
      have k2 := HF.out.bs.c2
      by_cases hlt : j < K
      · by_cases he : e = 0
        · subst he
          obtain ⟨y, q2, d, ht⟩ : ∃ y q2 d, takeS zs q 0 8 = (y, q2, d) := ⟨_, _, _, rfl⟩
          have HTK1 := Lib.hid (HT.out _ v out q 0 8 y q2 d HKP.out HF.out HQ.out (by omega) ht)
          have hR := HR.out
          rw [show K - j = (K - (j + 1)) + 1 by omega, storR, if_pos rfl, ht] at hR
          have hq2 := (takeS_p zs q 0 8 (by rw [HLEN.out]; exact HQ.out)).1
          have hy := takeS_v zs q 0 8
          rw [ht, HLEN.out] at hq2
          rw [ht] at hy
          dsimp only at hR hq2 hy
          have HR2 := Lib.hid hR
          have HQ2 := Lib.hid hq2
          have hy2 : 0 ≤ y ∧ y < 256 := hy
          clear hR hq2 hy ht
          go_wp2_with (first
            | (go_at_call 44; refine HTK1.out.mono ?_; rintro r w2 ⟨rfl, hb2, ho2⟩; have HF2 := Lib.hid (HF.out.read ho2 hb2); have HKP2 := Lib.hid (HKP.out.trans (ho2.keeps HF.out.tg HF.out.tb)); clear hb2 ho2)
            | (go_at_call 55; refine (putC k g n c _ most _ y A _ _ ts _ HF2.out hy2 hm).mono ?_; rintro r w3 ⟨rfl, v3, hf3, hk3⟩; have HF3 := Lib.hid hf3; have HKP3 := Lib.hid (HKP2.out.trans hk3); clear hf3 hk3))
          go_roundw
          case rel => exact ⟨j + 1, q2, _, v3, _, by omega, by go_num, HR2, HQ2, HF3, HKP3⟩
          case measure => simp [intOf]; omega
        · have hz : (e == 0) = false := beq_eq_false_iff_ne.2 he
          have HR2 : Hid ((q, e, out) = (p', e', out')) := Lib.hid (by rw [← storR_bad zs most (K - j) q e out he]; exact HR.out)
          clear he
          go_wp2
          (try simp only [Exit.inBlock, Exit.then])
          refine ⟨rfl, _, results_none rfl _ _ _, ?_⟩
          obtain ⟨rfl, h3⟩ := Prod.mk.inj HR2.out
          obtain ⟨rfl, rfl⟩ := Prod.mk.inj h3
          exact ⟨rfl, _, HF.out, HKP.out⟩
      · obtain rfl : j = K := by omega
        have HR2 : Hid ((q, e, out) = (p', e', out')) := Lib.hid (by have := HR.out; rw [Nat.sub_self] at this; exact this)
        go_wp2
        (try simp only [Exit.inBlock, Exit.then])
        refine ⟨rfl, _, results_none rfl _ _ _, ?_⟩
        obtain ⟨rfl, h3⟩ := Prod.mk.inj HR2.out
        obtain ⟨rfl, rfl⟩ := Prod.mk.inj h3
        exact ⟨rfl, _, HF.out, HKP.out⟩
end Go.Proofs.Ytginbilakdenmaa
