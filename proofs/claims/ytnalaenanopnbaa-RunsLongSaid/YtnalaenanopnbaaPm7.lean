/- Chapter 7, the program's own Encode. -/
import Derived.Test.YtnalaenanopnbaaPk7
namespace Go.Proofs.Ytnalaenanopnbaa
open Go.RowKit
set_option linter.unusedVariables false
set_option maxRecDepth 100000

theorem Byt.rest {w : World} {B n c : Nat} {A : Option Addr} {zs : List Int} (h : Byt w B A n c zs) {l : Nat} (hl : l ≤ n) : Byt w B (cutA A c l) (n - l) (c - l) (zs.drop l) := by
  have := h.cut (l := l) (m := n - l) (by omega)
  rwa [List.take_of_length_le (by rw [List.length_drop, h.len]; exact Nat.le_refl _)] at this
set_option maxHeartbeats 2000000 in
theorem plainC (A : Option Addr) (n c B : Nat) (ys : List Int) (w : World) (hb : Byt w B A n c ys) (hn : n ≤ 1000000) (h0 : 0 < n) (x : Nat) (hs : litS ys 0 = x) :
    Calls Try.prog 17 #[.slice A n c] w fun r w' => r = .returned (.int .i64 x) ∧ ∃ q, w' = w.drewN q := by
  unfold litS at hs
  have HB := Lib.hid hb
  have HLEN := Lib.hid hb.len
  have hcp := hb.cap
  obtain ⟨m, hm⟩ : ∃ m, min n 128 = m := ⟨_, rfl⟩
  have em : min (n : Int) 128 = m := by omega
  have HMM := Lib.hid hm
  clear hb hm
  go_enter Try.func17, Try.ntmps17
  go_wp2_with fail
  go_loopw [3] (fun iv wr => ∃ k : Nat, 1 ≤ k ∧ k ≤ 128 ∧ iv = .int .i64 k ∧ Hid (litF ys 0 (128 - k) k = x) ∧ (∃ q, wr = w.drewN q)) (fun iv _ => 128 - (intOf iv).toNat)
  case atStart => exact ⟨1, Nat.le_refl _, by omega, rfl, Lib.hid hs, ⟨0, rfl⟩⟩
  case round =>
    obtain ⟨k, hk1, hk2, rfl, HS, q, rfl⟩ := hrel
    by_cases h1 : k < m
    · have hk8 : k < 128 := by have := HMM.out; omega
      have hkn : k < n := by have := HMM.out; omega
      have h := HS.out
      obtain ⟨f, hf⟩ : ∃ f, 128 - k = f + 1 := ⟨127 - k, by omega⟩
      obtain ⟨y, hy⟩ : ∃ y, rowS ys k = y := ⟨_, rfl⟩
      rw [hf, litF, HLEN.out, Nat.zero_add, hy] at h
      have hf2 : 128 - (k + 1) = f := by omega
      have hsl : ∀ W, (Instr.slice 23 (.slice A n c) (some (.int .i64 (k : Int))) none none).run Try.prog W = .ok (.slice (cutA A c k) (n - k) (c - k)) W := fun W =>
        run_cutR (P := Try.prog) W 23 5 Try.underlying23 (fun w => by kernel_rfl) A n c k (by omega) hcp
      have HAL := Lib.hid (alikeC (cutA A c k) (n - k) (c - k) B (ys.drop k) (w.drewN q) ((HB.out.drewN q).rest (by omega)) (by omega) y (by rw [rowS_drop ys k (by rw [HLEN.out]; omega)]; exact hy))
      have g1 : (k : Int) < m := by omega
      clear hy hf hs
      by_cases h3 : y < 3
      · rw [if_pos ⟨hkn, h3⟩, ← hf2] at h
        have HN := Lib.hid h
        have g3 : (y : Int) < 3 := by omega
        clear h hf2
        go_wp2_with (go_at_call 15; refine HAL.out.mono ?_; (rintro r w3 ⟨rfl, q3, rfl⟩))
        go_roundw
        case rel => exact ⟨k + 1, by omega, by omega, by go_num, HN, ⟨_, by rfl⟩⟩
        case measure => simp [intOf]; omega
      · rw [if_neg (fun hh => h3 hh.2)] at h
        subst h
        have g3 : ¬ (y : Int) < 3 := by omega
        clear hf2
        go_wp2_with (go_at_call 15; refine HAL.out.mono ?_; (rintro r w3 ⟨rfl, q3, rfl⟩))
        go_ret
        exact ⟨rfl, _, rfl⟩
    · have hkx : k = x := by
        have h := HS.out
        by_cases h8 : k < 128
        · obtain ⟨f, hf⟩ : ∃ f, 128 - k = f + 1 := ⟨127 - k, by omega⟩
          rw [hf, litF, HLEN.out, if_neg (by have := HMM.out; omega)] at h
          exact h
        · rw [show 128 - k = 0 by omega, litF] at h
          exact h
      subst hkx
      have g1 : decide ((k : Int) < m) = false := decide_eq_false (by omega)
      have g2 : ¬ (k : Int) < m := by omega
      have g4 : decide (k < m) = false := decide_eq_false h1
      clear hs
      go_wp2_with fail
      go_ret
      exact ⟨rfl, q, rfl⟩
theorem Byt.pre {w : World} {B n c m : Nat} {A : Option Addr} {zs : List Int} (h : Byt w B A n c zs) (hm : m ≤ n) : Byt w B A m c (zs.take m) := by
  refine ⟨by rw [List.length_take, h.len]; omega, Nat.le_trans hm h.cap, fun z hz => h.rng z (List.mem_of_mem_take hz), fun h0 => ?_⟩
  obtain ⟨b, o, e, hlt, hc⟩ := h.cell (by omega)
  refine ⟨b, o, e, hlt, fun i hi => ?_⟩
  rw [hc i (by omega)]
  simp [List.getD, hi]
def lenOf7 : Value → Nat
  | .slice _ n _ => n
  | _ => 0
/-- A byte and some more, behind the row. -/
theorem put2 (base : Nat) (v : Value) (O : List Int) (V : Int) (A : Option Addr) (m c : Nat) (ys : List Int) (w : World) (hm : Mine w base v O.length O) (hbase : base ≤ w.heap.size) (hV : 0 ≤ V ∧ V < 256)
    (hy : Byt w base A m c ys) (hml : m ≤ 1000000) (hO : O.length ≤ 100000000) :
    Calls Try.prog 16 #[v, .slice (some ⟨w.heap.size + 1, 0, none⟩) 2 2] ((w.alloc (.cells #[.int .u8 V] 5)).alloc (.cells #[.slice (some ⟨w.heap.size, 0, none⟩) 1 1, .slice A m c] 23)) fun r w' => ∃ v', r = .returned v' ∧ Mine w' base v' (O ++ [V] ++ ys).length (O ++ [V] ++ ys) ∧ Below base w w' := by
  obtain ⟨w1, hw1⟩ : ∃ w1, w.alloc (.cells #[.int .u8 V] 5) = w1 := ⟨_, rfl⟩
  have hs1 : w1.heap.size = w.heap.size + 1 := by rw [← hw1]; simp
  have b1 : Below w.heap.size w w1 := by rw [← hw1]; exact (Below.refl _ _).alloc (Nat.le_refl _) _
  have h1 : Byt w1 (w.heap.size + 1) (some ⟨w.heap.size, 0, none⟩) 1 1 [V] := by rw [← hw1]; exact byt_lit0 w V hV
  have b2 := (Below.refl w1.heap.size w1).alloc (Nat.le_refl _) (.cells #[.slice (some ⟨w.heap.size, 0, none⟩) 1 1, .slice A m c] 23)
  have hlt := hm.lt
  have hown := hm.owned
  rw [hw1, ← hs1]
  refine (putC base w1.heap.size 2 v O _ _ _ _ _ ((hm.kept b1).kept b2) (by simp [hs1]; omega) (parts2 (by simp) (by simp [World.cell?_alloc_mark]) (by simp [World.cell?_alloc_mark]) ((h1.below b2 (by omega)).more (by simp [hs1])) ((((hy.below b1 hbase).below b2 (by omega))).more (by simp [hs1]; omega))) (fun e => by have := hlt _ e; omega) (fun i hi => ?_) (by omega) hO (fun i hi => ?_)).mono ?_
  · obtain rfl | rfl : i = 0 ∨ i = 1 := by omega
    · intro _ b o e1 e2
      simp only [at3, Option.some.injEq, Addr.mk.injEq] at e1
      have := hlt _ e2
      omega
    · intro h0 b o e1 e2
      obtain ⟨b', o', e', hb', _⟩ := hy.cell h0
      simp only [at3] at e1
      rw [e'] at e1
      simp only [Option.some.injEq, Addr.mk.injEq] at e1
      have := hown _ e2
      omega
  · obtain rfl | rfl : i = 0 ∨ i = 1 := by omega
    · simp [at3]
    · exact hml
  · rintro r w' ⟨v', rfl, hm', _, hb'⟩
    refine ⟨v', rfl, ?_, ((b1.mono hbase).trans (b2.mono (by omega))).trans hb'⟩
    have e : O ++ catZ (at3 [V] ys [V]) 2 = O ++ [V] ++ ys := by simp [catZ, at3]
    rw [← e]
    exact hm'
/-- One byte behind the row. -/
theorem put1 (base : Nat) (v : Value) (O : List Int) (V : Int) (w : World) (hm : Mine w base v O.length O) (hbase : base ≤ w.heap.size) (hV : 0 ≤ V ∧ V < 256) (hO : O.length ≤ 100000000) :
    Calls Try.prog 16 #[v, .slice (some ⟨w.heap.size + 1, 0, none⟩) 1 1] ((w.alloc (.cells #[.int .u8 V] 5)).alloc (.cells #[.slice (some ⟨w.heap.size, 0, none⟩) 1 1] 23)) fun r w' => ∃ v', r = .returned v' ∧ Mine w' base v' (O ++ [V]).length (O ++ [V]) ∧ Below base w w' := by
  obtain ⟨w1, hw1⟩ : ∃ w1, w.alloc (.cells #[.int .u8 V] 5) = w1 := ⟨_, rfl⟩
  have hs1 : w1.heap.size = w.heap.size + 1 := by rw [← hw1]; simp
  have b1 : Below w.heap.size w w1 := by rw [← hw1]; exact (Below.refl _ _).alloc (Nat.le_refl _) _
  have h1 : Byt w1 (w.heap.size + 1) (some ⟨w.heap.size, 0, none⟩) 1 1 [V] := by rw [← hw1]; exact byt_lit0 w V hV
  have b2 := (Below.refl w1.heap.size w1).alloc (Nat.le_refl _) (.cells #[.slice (some ⟨w.heap.size, 0, none⟩) 1 1] 23)
  have hlt := hm.lt
  rw [hw1, ← hs1]
  refine (putC base w1.heap.size 1 v O _ _ _ _ _ ((hm.kept b1).kept b2) (by simp [hs1]; omega) (parts1 (by simp) (by simp [World.cell?_alloc_mark]) ((h1.below b2 (by omega)).more (by simp [hs1]))) (fun e => by have := hlt _ e; omega) (fun i hi => ?_) (by omega) hO (fun i hi => ?_)).mono ?_
  · obtain rfl : i = 0 := by omega
    intro _ b o e1 e2
    simp only [at3, Option.some.injEq, Addr.mk.injEq] at e1
    have := hlt _ e2
    omega
  · obtain rfl : i = 0 := by omega
    simp [at3]
  · rintro r w' ⟨v', rfl, hm', _, hb'⟩
    refine ⟨v', rfl, ?_, ((b1.mono hbase).trans (b2.mono (by omega))).trans hb'⟩
    have e : O ++ catZ (at3 [V] [V] [V]) 1 = O ++ [V] := by simp [catZ, at3]
    rw [← e]
    exact hm'
set_option maxHeartbeats 4000000 in
theorem pEncode (A : Option Addr) (n c : Nat) (zs : List Int) (w : World) (hb : Byt w w.heap.size A n c zs) (hn : n ≤ 100000) :
    Calls Try.prog 10 #[.slice A n c] w fun r w' => ∃ v, r = .returned v ∧ Mine w' w.heap.size v (encS zs).length (encS zs) ∧ Below w.heap.size w w' := by
  have HB := Lib.hid hb
  have HLEN := Lib.hid hb.len
  have HRG := Lib.hid hb.rng
  obtain ⟨FB, hFB⟩ : ∃ FB, encR zs n 0 = FB := ⟨_, rfl⟩
  have HEND : Hid (encS zs = FB ++ [128]) := Lib.hid (by rw [encS, HLEN.out, hFB])
  have HFL : Hid (FB.length ≤ 3000000) := Lib.hid (by
    have := enc_len zs n 0 (Nat.zero_le _)
    rw [hFB, HLEN.out] at this
    split at this <;> omega)
  have HFB := Lib.hid hFB
  clear hFB
  go_enter Try.func10, Try.ntmps10
  go_wp2_with fail
  go_loopw [0, 3, 4] (fun bv ov _ wr => ∃ (a f L C : Nat) (A2 : Option Addr) (O : List Int), a + L = n ∧ L ≤ C ∧ bv = .slice A2 L C ∧ Hid (n ≤ a + f ∧ O ++ encR zs f a = FB) ∧ Hid (∀ W, Below w.heap.size w W → Byt W w.heap.size A2 L C (zs.drop a)) ∧ Hid (Mine wr w.heap.size ov O.length O) ∧ Hid (Below w.heap.size w wr)) (fun bv _ _ _ => lenOf7 bv)
  case atStart => exact ⟨0, n, n, c, A, [], by omega, hb.cap, rfl, Lib.hid ⟨by omega, by rw [List.nil_append, HFB.out]⟩, Lib.hid (fun W hW => by rw [List.drop_zero]; exact HB.out.below hW (Nat.le_refl _)), Lib.hid (Mine.nil _ _), Lib.hid (Below.refl _ _)⟩
  case round =>
    obtain ⟨a, f, L, C, A2, O, haL, hLC, rfl, HE, HY, HM, HBE⟩ := hrel
    have HOL : Hid (O.length ≤ 3000000) := Lib.hid (by
      have h1 := congrArg List.length HE.out.2
      rw [List.length_append] at h1
      have := HFL.out
      omega)
    have HSZ := Lib.hid HBE.out.size
    by_cases hlt : 0 < L
    · have he := HE.out
      obtain ⟨f, rfl⟩ : ∃ j, f = j + 1 := ⟨f - 1, by omega⟩
      have hal : a < zs.length := by rw [HLEN.out]; omega
      rw [enc_in zs f a hal] at he
      have hlti : (L : Int) > 0 := by omega
      have hx128 := rowS_bd zs a
      have hxn := rowS_len zs a (by omega)
      obtain ⟨x, hx⟩ : ∃ x, rowS zs a = x := ⟨_, rfl⟩
      have hxl : x ≤ L := by rw [hx, HLEN.out] at hxn; omega
      have HRW := Lib.hid (alikeC A2 L C _ (zs.drop a) wr (HY.out _ HBE.out) (by omega) x (by rw [rowS_drop zs a (by omega)]; exact hx))
      rw [hx] at he hx128
      have hcutR : ∀ m, m ≤ L → ∀ W, (Instr.slice 23 (.slice A2 L C) (some (.int .i64 (m : Int))) none none).run Try.prog W = .ok (.slice (cutA A2 C m) (L - m) (C - m)) W := fun m hm W =>
        run_cutR (P := Try.prog) W 23 5 Try.underlying23 (fun w => by kernel_rfl) A2 L C m hm hLC
      have hcut0 : ∀ m, m ≤ L → ∀ W, (Instr.slice 23 (.slice A2 L C) none (some (.int .i64 (m : Int))) none).run Try.prog W = .ok (.slice (cutA A2 C 0) m C) W := fun m hm W =>
        run_cut0 (P := Try.prog) W 23 5 Try.underlying23 (fun w => by kernel_rfl) A2 L C m (by omega)
      have HYR : Hid (∀ m, m ≤ L → ∀ W, Below w.heap.size w W → Byt W w.heap.size (cutA A2 C m) (L - m) (C - m) (zs.drop (a + m))) := Lib.hid (fun m hm W hW => by rw [← List.drop_drop]; exact (HY.out W hW).rest hm)
      by_cases h3 : 3 ≤ x
      · rw [if_pos h3] at he
        obtain ⟨V, hV⟩ : ∃ V : Int, 257 - (x : Int) = V := ⟨_, rfl⟩
        rw [hV] at he
        have hV0 : 0 ≤ V := by omega
        have hV1 : V < 256 := by omega
        have hVw : IntKind.i64.wrap V = V := IntWalk.i64_in _ (by omega)
        have hVb : IntKind.u8.wrap V = V := IntWalk.u8_in _ (by omega)
        have hx3 : (x : Int) ≥ 3 := by omega
        have hc2 := hcutR x hxl
        have HPU := Lib.hid (fun q => put2 w.heap.size _ O V A2 1 C [zs.getD a 0] (wr.drewN q) (HM.out.drewN q) HSZ.out ⟨hV0, hV1⟩ (by
          have h := (HY.out _ (below_drewN HBE.out q)).pre (m := 1) (by omega)
          rw [drop_atZ zs a hal] at h
          exact h) (by omega) (by have := HOL.out; omega))
        have HE2 := Lib.hid he
        have HX := Lib.hid (show 0 < x ∧ x ≤ L by omega)
        clear he hx hxn hcut0 hcutR
        go_wp2_with (first
          | (go_at_call 15; refine HRW.out.mono ?_; (rintro r w2 ⟨rfl, q2, rfl⟩))
          | (go_at_call 16; refine (HPU.out q2).mono ?_; (rintro r w3 ⟨v3, rfl, hm3, hb3⟩); have HM3 := Lib.hid hm3; have HB3 := Lib.hid ((below_drewN HBE.out q2).trans hb3); clear hm3 hb3))
        go_roundw
        case rel => exact ⟨a + x, f, L - x, C - x, _, O ++ [V] ++ [zs.getD a 0], by have := HX.out; omega, by omega, rfl, Lib.hid ⟨by have := HE2.out.1; have := HX.out; omega, by rw [List.append_assoc, List.append_assoc]; exact HE2.out.2⟩, Lib.hid (HYR.out x HX.out.2), HM3, HB3⟩
        case measure => have := HX.out; simp [lenOf7]; omega
      · rw [if_neg h3] at he
        have hk1 := litS_bd zs a
        have hk2 := litS_len zs a hal
        rw [HLEN.out] at hk2
        obtain ⟨y, hy⟩ : ∃ y, litS zs a = y := ⟨_, rfl⟩
        have HPL := Lib.hid (fun q => plainC A2 L C _ (zs.drop a) (wr.drewN q) (HY.out _ (below_drewN HBE.out q)) (by omega) hlt y (by rw [litS_drop zs a (by omega)]; exact hy))
        rw [hy] at he hk1 hk2
        have hyl : y ≤ L := by omega
        obtain ⟨V, hV⟩ : ∃ V : Int, (y : Int) - 1 = V := ⟨_, rfl⟩
        rw [hV] at he
        have hV0 : 0 ≤ V := by omega
        have hV1 : V < 256 := by omega
        have hVw : IntKind.i64.wrap V = V := IntWalk.i64_in _ (by omega)
        have hVb : IntKind.u8.wrap V = V := IntWalk.u8_in _ (by omega)
        have hx3 : ¬ (x : Int) ≥ 3 := by omega
        have hc1 := hcut0 y hyl
        have hc2 := hcutR y hyl
        have HPU := Lib.hid (fun q => put2 w.heap.size _ O V (cutA A2 C 0) y C ((zs.drop a).take y) (wr.drewN q) (HM.out.drewN q) HSZ.out ⟨hV0, hV1⟩ ((HY.out _ (below_drewN HBE.out q)).first hyl) (by omega) (by have := HOL.out; omega))
        have HE2 := Lib.hid he
        have HX := Lib.hid (show 0 < y ∧ y ≤ L by omega)
        clear he hx hxn hcut0 hcutR hy hk1 hk2
        go_wp2_with (first
          | (go_at_call 15; refine HRW.out.mono ?_; (rintro r w2 ⟨rfl, q2, rfl⟩))
          | (go_at_call 17; refine (HPL.out q2).mono ?_; (rintro r w4 ⟨rfl, q4, rfl⟩))
          | (go_at_call 16; refine (HPU.out _).mono ?_; (rintro r w3 ⟨v3, rfl, hm3, hb3⟩); have HM3 := Lib.hid hm3; have HB3 := Lib.hid ((below_drewN HBE.out _).trans hb3); clear hm3 hb3))
        go_roundw
        case rel => exact ⟨a + y, f, L - y, C - y, _, O ++ [V] ++ (zs.drop a).take y, by have := HX.out; omega, by omega, rfl, Lib.hid ⟨by have := HE2.out.1; have := HX.out; omega, by rw [List.append_assoc, List.append_assoc]; exact HE2.out.2⟩, Lib.hid (HYR.out y HX.out.2), HM3, HB3⟩
        case measure => have := HX.out; simp [lenOf7]; omega
    · obtain rfl : L = 0 := by omega
      have he := HE.out.2
      rw [enc_out zs f a (by rw [HLEN.out]; omega), List.append_nil] at he
      subst he
      have HPU := Lib.hid (put1 w.heap.size _ O 128 wr HM.out HSZ.out (by omega) (by have := HOL.out; omega))
      clear HFB HE
      go_wp2_with (go_at_call 16; refine HPU.out.mono ?_; (rintro r w3 ⟨v3, rfl, hm3, hb3⟩); have HM3 := Lib.hid hm3; have HB3 := Lib.hid (HBE.out.trans hb3); clear hm3 hb3)
      go_ret
      exact ⟨_, rfl, by rw [HEND.out]; exact HM3.out, HB3.out⟩
end Go.Proofs.Ytnalaenanopnbaa
