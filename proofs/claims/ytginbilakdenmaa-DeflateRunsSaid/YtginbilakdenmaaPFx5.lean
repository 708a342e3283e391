/- Chapter 5, the project's own Fixed. -/
import Derived.Test.YtginbilakdenmaaPCs5
import Derived.Test.YtginbilakdenmaaPAg5
namespace Go.Proofs.Ytginbilakdenmaa
open Go.RowKit
set_option linter.unusedVariables false
set_option maxRecDepth 100000

theorem best_bd (zs : List Int) (a : Nat) (ha : a ≤ zs.length) : (bestS zs a).1 ≤ 258 ∧ (bestS zs a).2 ≤ 64 ∧ a + (bestS zs a).1 ≤ zs.length ∧ (1 ≤ (bestS zs a).1 → 1 ≤ (bestS zs a).2) := by
  have := bestN_bd zs a ha (min 64 a)
  unfold bestS
  refine ⟨this.1, by omega, this.2.2.1, fun h => (this.2.2.2 h).1⟩
set_option maxHeartbeats 2000000 in
theorem pFixed (A : Option Addr) (n c : Nat) (zs : List Int) (w : World) (hb : Byt w w.heap.size A n c zs) (hn : n ≤ 1000000) :
    Calls Try.prog 15 #[.slice A n c] w fun r w' => ∃ v, r = .returned v ∧ Mine w' w.heap.size v (fixedS zs).length (fixedS zs) ∧ Below w.heap.size w w' := by
  have HB := Lib.hid hb
  have HLEN := Lib.hid hb.len
  have hw0 := pw_new w
  have hk := beginC w.heap.size _ [] [] 1 true _ hw0 (by simp) (by omega) (by omega)
  rw [show [] ++ kindB 1 true = [1, 1, 0] by decide] at hk
  have HK := Lib.hid hk
  have HLT := Lib.hid hw0.lt
  have HW0 := Lib.hid hw0
  obtain ⟨FB, hFB⟩ : ∃ FB, [1, 1, 0] ++ fixR zs n 0 = FB := ⟨_, rfl⟩
  have HFBL : Hid (FB.length ≤ 9000003) := Lib.hid (by
    rw [← hFB, List.length_append]
    have := fixR_len zs HB.out.rng n 0
    have h2 := HLEN.out
    simp only [List.length_cons, List.length_nil]
    omega)
  have HFB := Lib.hid hFB
  have HFIN : Hid (pack (FB ++ symB 256) = fixedS zs) := Lib.hid (by rw [← hFB, fixedS, fixBits, HLEN.out, List.append_assoc])
  clear hb hw0 hk hFB
  go_enter Try.func15, Try.ntmps15
  go_upto_region 4 with (go_at_call 27; refine HK.out.mono ?_; (rintro r w1 ⟨rfl, bs1, hp1, ho1, hb1⟩); have HW1 := Lib.hid hp1; have HB1 : Hid (Below w.heap.size w w1) := Lib.hid (((Below.refl _ _).alloc (Nat.le_refl _) _).trans (ho1.below (by simp))); clear hp1 ho1 hb1)
  clear HK HW0 HLT
  go_loopw [4, 5, 6] (fun av s5 s6 wr => ∃ (a f : Nat) (M : List Int) (bs : List Nat), a ≤ n ∧ av = .int .i64 a ∧ Hid (n ≤ a + f ∧ M ++ fixR zs f a = FB) ∧ Hid (PW wr w.heap.size 53 bs M) ∧ Hid (Below w.heap.size w wr)) (fun av _ _ _ => n - (intOf av).toNat)
  case atStart => exact ⟨0, n, _, bs1, Nat.zero_le _, rfl, Lib.hid ⟨by omega, HFB.out⟩, HW1, HB1⟩
  case round =>
    obtain ⟨a, f, M, bs, ha, rfl, HE, HW, HBE⟩ := hrel
    have HMB : Hid (M.length ≤ 9000003) := Lib.hid (by
      have h1 := congrArg List.length HE.out.2
      rw [List.length_append] at h1
      have := HFBL.out
      omega)
    have HSZ := Lib.hid (Nat.le_of_lt HW.out.lt)
    by_cases hlt : a < n
    · have hf := HE.out
      obtain ⟨f, rfl⟩ : ∃ j, f = j + 1 := ⟨f - 1, by omega⟩
      rw [fixR_in zs f a (by rw [HLEN.out]; exact hlt)] at hf
      have hby := HB.out.below HBE.out (Nat.le_refl _)
      have hbd := best_bd zs a (by rw [HLEN.out]; exact ha)
      rw [HLEN.out] at hbd
      by_cases h3 : (bestS zs a).1 < 3
      · have HAG := Lib.hid (pagainC A _ n c a zs wr hby hn hlt 0 0 (by unfold againS; rw [if_pos h3]))
        rw [if_pos h3] at hf
        obtain ⟨b, o, rfl, hbl, hcell⟩ := hby.cell (by omega)
        have hck := hcell a hlt
        have hrg := hby.getD a
        obtain ⟨x, hx⟩ : ∃ x, zs.getD a 0 = x := ⟨_, rfl⟩
        rw [hx] at hck hrg hf
        have HSY := Lib.hid (fun j => psymC w.heap.size _ bs M x.toNat x (wr.drewN j) (HW.out.drewN j) (by have := HMB.out; omega) (by omega) (by omega))
        have hwx : IntKind.i64.wrap x = x := IntWalk.i64_in _ (by omega)
        have hwx2 : wrap64 x = x := by unfold wrap64; omega
        have HF : Hid (n ≤ a + 1 + f ∧ M ++ symB x.toNat ++ fixR zs f (a + 1) = FB) := Lib.hid ⟨by omega, by rw [List.append_assoc]; exact hf.2⟩
        clear hf hby hbd h3 hcell hrg hx HE HW HMB
        go_wp2_with (first
          | (go_at_call 28; refine HAG.out.mono ?_; (rintro r w2 ⟨rfl, j, rfl⟩))
          | (go_at_call 29; refine (HSY.out _).mono ?_; (rintro r w3 ⟨rfl, bs3, hp3, ho3, hb3⟩); have HW3 := Lib.hid hp3; have HB3 := Lib.hid ((below_drewN HBE.out _).trans (ho3.below HSZ.out)); clear hp3 ho3 hb3))
        go_roundw
        case rel => exact ⟨a + 1, f, _, bs3, hlt, by go_num, HF, HW3, HB3⟩
        case measure => simp [intOf]; omega
      · rw [if_neg h3] at hf
        obtain ⟨p, q, hpq⟩ : ∃ p q, bestS zs a = (p, q) := ⟨_, _, rfl⟩
        rw [hpq] at hf hbd h3
        dsimp only at hf hbd h3
        have HAG := Lib.hid (pagainC A _ n c a zs wr hby hn hlt p q (by unfold againS; rw [hpq]; dsimp only; rw [if_neg h3]))
        have hq1 := hbd.2.2.2 (by omega)
        have HLE := Lib.hid (fun j => plenC w.heap.size _ bs M p (wr.drewN j) (HW.out.drewN j) (by have := HMB.out; omega) (by omega) (by omega))
        have HDI := Lib.hid (fun W bs1 (hW : PW W w.heap.size 53 bs1 (M ++ lenBits p)) => pdisC w.heap.size _ bs1 _ q W hW (by rw [List.length_append]; have := HMB.out; have := lenBits_len p (by omega) (by omega); omega) (by omega) (by omega))
        have HF : Hid (n ≤ a + p + f ∧ M ++ lenBits p ++ disBits q ++ fixR zs f (a + p) = FB) := Lib.hid ⟨by omega, by rw [List.append_assoc, List.append_assoc]; exact hf.2⟩
        have hp0 : ¬ (p : Int) = 0 := by omega
        have hap : a + p ≤ n := by omega
        have hp3 : 3 ≤ p := by omega
        clear hf hby hbd h3 hpq hq1 HE HW HMB
        go_wp2_with (first
          | (go_at_call 28; refine HAG.out.mono ?_; (rintro r w2 ⟨rfl, j, rfl⟩))
          | (go_at_call 30; refine (HLE.out _).mono ?_; (rintro r w3 ⟨rfl, bs3, hp3, ho3, hb3⟩); have HW3 := Lib.hid hp3; have HB3 := Lib.hid ((below_drewN HBE.out _).trans (ho3.below HSZ.out)); have HSZ3 := Lib.hid (Nat.le_of_lt hp3.lt); clear hp3 ho3 hb3)
          | (go_at_call 31; refine (HDI.out _ _ HW3.out).mono ?_; (rintro r w4 ⟨rfl, bs4, hp4, ho4, hb4⟩); have HW4 := Lib.hid hp4; have HB4 := Lib.hid (HB3.out.trans (ho4.below HSZ3.out)); clear hp4 ho4 hb4))
        go_roundw
        case rel => exact ⟨a + p, f, _, bs4, hap, by go_num, HF, HW4, HB4⟩
        case measure => simp [intOf]; omega
    · obtain rfl : a = n := by omega
      have hf := HE.out.2
      rw [fixR_out zs f a (by rw [HLEN.out]; exact Nat.le_refl _), List.append_nil] at hf
      subst hf
      have HSY := Lib.hid (psymC w.heap.size _ bs M 256 256 wr HW.out (by have := HMB.out; omega) (by omega) rfl)
      have HBY := Lib.hid (fun W bs1 (hW : PW W w.heap.size 53 bs1 (M ++ symB 256)) => pbytes5 w.heap.size _ bs1 _ W hW (by rw [List.length_append]; have := HMB.out; have := (symB_len 256 (by omega)).2; omega))
      rw [HFIN.out] at HBY
      clear HE HW HFB
      go_wp2_with (first
        | (go_at_call 29; refine HSY.out.mono ?_; (rintro r w3 ⟨rfl, bs3, hp3, ho3, hb3⟩); have HW3 := Lib.hid hp3; have HB3 := Lib.hid (HBE.out.trans (ho3.below HSZ.out)); clear hp3 ho3 hb3)
        | (go_at_call 13; refine (HBY.out _ _ HW3.out).mono ?_; (rintro r w4 ⟨v4, rfl, hm4, hb4⟩); have HM4 := Lib.hid (hm4.base HB3.out.size); have HB4 := Lib.hid (HB3.out.trans (hb4.mono HB3.out.size)); clear hm4 hb4))
      go_ret
      exact ⟨_, rfl, HM4.out, HB4.out⟩
end Go.Proofs.Ytginbilakdenmaa
