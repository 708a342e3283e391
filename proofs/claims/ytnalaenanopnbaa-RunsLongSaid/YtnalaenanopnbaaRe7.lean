/- Chapter 7, the document's own RunsEncode. -/
import Derived.Test.YtnalaenanopnbaaRw7
namespace Go.Proofs.Ytnalaenanopnbaa
open Go.RowKit
set_option linter.unusedVariables false
set_option maxRecDepth 100000

theorem byt_two7 (w : World) (a b : Int) (ha : 0 ≤ a ∧ a < 256) (hb : 0 ≤ b ∧ b < 256) : Byt (w.alloc (.cells #[.int .u8 a, .int .u8 b] 5)) (w.heap.size + 1) (some ⟨w.heap.size, 0, none⟩) 2 2 [a, b] :=
  byt_lit w (0, 0) [a, b] (fun y hy => by simp at hy; omega) 2 rfl _ rfl
set_option maxHeartbeats 4000000 in
theorem refEncode (A : Option Addr) (n c : Nat) (zs : List Int) (w : World) (hb : Byt w w.heap.size A n c zs) (hn : n ≤ 1000000) :
    Calls Try.prog 12 #[.slice A n c] w fun r w' => ∃ v, r = .returned v ∧ Mine w' w.heap.size v (encS zs).length (encS zs) ∧ Below w.heap.size w w' := by
  have HB := Lib.hid hb
  have HLEN := Lib.hid hb.len
  have HRG := Lib.hid hb.rng
  have hcp := hb.cap
  obtain ⟨FB, hFB⟩ : ∃ FB, encR zs n 0 = FB := ⟨_, rfl⟩
  have HEND : Hid (encS zs = FB ++ [128]) := Lib.hid (by rw [encS, HLEN.out, hFB])
  have HFL : Hid (FB.length ≤ 3000000) := Lib.hid (by
    have := enc_len zs n 0 (Nat.zero_le _)
    rw [hFB, HLEN.out] at this
    split at this <;> omega)
  have HFB := Lib.hid hFB
  clear hb hFB
  go_enter Try.func12, Try.ntmps12
  go_wp2_with fail
  go_loopw [3, 4, 5, 6] (fun ov av s5 s6 wr => ∃ (a f : Nat) (O : List Int), a ≤ n ∧ av = .int .i64 a ∧ Hid (n ≤ a + f ∧ O ++ encR zs f a = FB) ∧ Hid (Mine wr w.heap.size ov O.length O) ∧ Hid (Below w.heap.size w wr)) (fun _ av _ _ _ => n - (intOf av).toNat)
  case atStart => exact ⟨0, n, [], Nat.zero_le _, rfl, Lib.hid ⟨by omega, by rw [List.nil_append, HFB.out]⟩, Lib.hid (Mine.nil _ _), Lib.hid (Below.refl _ _)⟩
  case round =>
    obtain ⟨a, f, O, ha, rfl, HE, HM, HBE⟩ := hrel
    have HOL : Hid (O.length ≤ 3000000) := Lib.hid (by
      have h1 := congrArg List.length HE.out.2
      rw [List.length_append] at h1
      have := HFL.out
      omega)
    have HSZ := Lib.hid HBE.out.size
    by_cases hlt : a < n
    · have he := HE.out
      obtain ⟨f, rfl⟩ : ∃ j, f = j + 1 := ⟨f - 1, by omega⟩
      rw [enc_in zs f a (by rw [HLEN.out]; exact hlt)] at he
      have hby := HB.out.below HBE.out (Nat.le_refl _)
      have hlti : (a : Int) < n := by omega
      have hx128 := rowS_bd zs a
      have hxn := rowS_len zs a (by rw [HLEN.out]; exact ha)
      rw [HLEN.out] at hxn
      obtain ⟨x, hx⟩ : ∃ x, rowS zs a = x := ⟨_, rfl⟩
      have HRW := Lib.hid (rowC A n c _ a zs wr hby hn hlt x hx)
      rw [hx] at he hx128 hxn
      by_cases h3 : 3 ≤ x
      · rw [if_pos h3] at he
        have hrg := hby.getD a
        obtain ⟨b, o, rfl, hbl, hcell⟩ := hby.cell (by omega)
        have ck := hcell a hlt
        obtain ⟨z, hz⟩ : ∃ z, zs.getD a 0 = z := ⟨_, rfl⟩
        rw [hz] at ck hrg he
        obtain ⟨V, hV⟩ : ∃ V : Int, 257 - (x : Int) = V := ⟨_, rfl⟩
        rw [hV] at he
        have hV0 : 0 ≤ V := by omega
        have hV1 : V < 256 := by omega
        have hVw : IntKind.i64.wrap V = V := IntWalk.i64_in _ (by omega)
        have hx3 : (x : Int) ≥ 3 := by omega
        obtain ⟨P, hP⟩ : ∃ P, a + x = P := ⟨_, rfl⟩
        rw [hP] at he hxn
        have hPi : (a : Int) + x = P := by omega
        have hPw : IntKind.i64.wrap (P : Int) = P := IntWalk.i64_in _ (by omega)
        have HE2 := Lib.hid he
        have HAP := Lib.hid (fun q => ((HM.out.drewN q).kept ((Below.refl _ _).alloc (Nat.le_refl _) (.cells #[.int .u8 V, .int .u8 z] 5))).appendT (byt_two7 (wr.drewN q) V z ⟨hV0, hV1⟩ hrg) 23 (by have := HOL.out; omega) (by have := HSZ.out; simp; omega))
        have HLT := Lib.hid hxn
        have HPA := Lib.hid (show a < P by omega)
        clear hby hcell hz he hx hP hrg
        go_wp2_with (first
          | (go_at_call 22; refine HRW.out.mono ?_; (rintro r w2 ⟨rfl, q2, rfl⟩))
          | (at_builtin; obtain ⟨v7, w7, hrun, hm7, hb7, _⟩ := HAP.out q2; obtain ⟨A7, c7, rfl, _⟩ := hm7.byt; refine Lib.wpList_append_run_sl _ rfl (.tmp 16) (.tmp 24) 23 rfl _ _ rfl rfl hrun ?_; clear hrun; have HM7 := Lib.hid hm7; have HB7 := Lib.hid (((below_drewN HBE.out q2).alloc HSZ.out (.cells #[.int .u8 V, .int .u8 z] 5)).trans hb7); clear hm7 hb7))
        go_roundw
        case rel => exact ⟨P, f, O ++ [V, z], HLT.out, by go_num, Lib.hid ⟨by have := HE2.out.1; have := HPA.out; omega, by rw [List.append_assoc]; exact HE2.out.2⟩, Lib.hid (by rw [List.length_append]; exact HM7.out), HB7⟩
        case measure => have := HPA.out; have := HLT.out; simp [intOf]; omega
      · rw [if_neg h3] at he
        have hk1 := litS_bd zs a
        have hk2 := litS_len zs a (by rw [HLEN.out]; exact hlt)
        rw [HLEN.out] at hk2
        obtain ⟨y, hy⟩ : ∃ y, litS zs a = y := ⟨_, rfl⟩
        rw [hy] at he hk1 hk2
        have HE2 := Lib.hid he
        have hx3 : ¬ (x : Int) ≥ 3 := by omega
        have HY := Lib.hid hy
        have HK := Lib.hid (And.intro hk1 hk2)
        have HBY := Lib.hid hby
        clear hby he hx hy hk1 hk2 hxn
        go_upto_region 9 with (go_at_call 22; refine HRW.out.mono ?_; (rintro r w2 ⟨rfl, q2, rfl⟩))
        go_loopw [6] (fun kv wk => ∃ k q : Nat, 1 ≤ k ∧ k ≤ 128 ∧ a + k ≤ n ∧ kv = .int .i64 k ∧ Hid (litF zs a (128 - k) k = y) ∧ wk = wr.drewN q) (fun kv _ => 128 - (intOf kv).toNat)
        case atStart => exact ⟨1, q2, Nat.le_refl _, by omega, by omega, rfl, Lib.hid HY.out, rfl⟩
        case round =>
          obtain ⟨k, q, hk1, hk2, hk3, rfl, HL, rfl⟩ := hrel
          obtain ⟨P, hP⟩ : ∃ P, a + k = P := ⟨_, rfl⟩
          have e1 : (a : Int) + k = P := by omega
          have e0 : IntKind.i64.wrap (P : Int) = P := IntWalk.i64_in _ (by omega)
          obtain ⟨x2, hx2⟩ : ∃ x2, rowS zs P = x2 := ⟨_, rfl⟩
          have h128 := rowS_bd zs P
          rw [hx2] at h128
          by_cases hgo : k < 128 ∧ P < n ∧ x2 < 3
          · obtain ⟨g1, g2, g3⟩ := hgo
            have hl := HL.out
            rw [show 128 - k = (128 - (k + 1)) + 1 by omega, litF, HLEN.out, hP, hx2, if_pos ⟨g2, g3⟩] at hl
            have HN := Lib.hid hl
            have HR2 := Lib.hid (rowC A n c _ P zs (wr.drewN q) (HBY.out.drewN q) hn g2 x2 hx2)
            have i1 : (k : Int) < 128 := by omega
            have i2 : (P : Int) < n := by omega
            have i3 : (x2 : Int) < 3 := by omega
            have HP := Lib.hid hP
            clear hl hP hx2
            go_wp2_with (go_at_call 22; refine HR2.out.mono ?_; (rintro r w3 ⟨rfl, q3, rfl⟩))
            go_roundw
            case rel => exact ⟨k + 1, _, by omega, by omega, by have := HP.out; omega, by go_num, HN, by rfl⟩
            case measure => simp [intOf]; omega
          · have hky : k = y := by
              have hl := HL.out
              by_cases g1 : k < 128
              · rw [show 128 - k = (128 - (k + 1)) + 1 by omega, litF, HLEN.out, hP, hx2, if_neg (fun h => hgo ⟨g1, h.1, h.2⟩)] at hl
                exact hl
              · rw [show 128 - k = 0 by omega, litF] at hl
                exact hl
            subst hky
            obtain ⟨V, hV⟩ : ∃ V : Int, (k : Int) - 1 = V := ⟨_, rfl⟩
            have he := HE2.out
            rw [hV, hP] at he
            have HE3 := Lib.hid he
            have hV0 : 0 ≤ V := by omega
            have hV1 : V < 256 := by omega
            have hVw : IntKind.i64.wrap V = V := IntWalk.i64_in _ (by omega)
            have hsl : ∀ W, (Instr.slice 23 (.slice A n c) (some (.int .i64 (a : Int))) (some (.int .i64 (P : Int))) none).run Try.prog W = .ok (.slice (cutA A c a) k (c - a)) W := fun W => by
              have h := run_cut (P := Try.prog) W 23 5 Try.underlying23 (fun w => by kernel_rfl) A n c a P (by omega) (by omega)
              rw [show P - a = k by omega] at h
              exact h
            have HAP := Lib.hid (fun j => ((HM.out.drewN j).kept ((Below.refl _ _).alloc (Nat.le_refl _) (.cells #[.int .u8 V] 5))).appendT (byt_lit0 (wr.drewN j) V ⟨hV0, hV1⟩) 23 (by have := HOL.out; omega) (by have := HSZ.out; simp; omega))
            have HCUT := Lib.hid (fun W (hW : Below w.heap.size w W) => (HB.out.below hW (Nat.le_refl _)).cut (l := a) (m := k) (by omega))
            have HLT := Lib.hid (show a < P ∧ P ≤ n by omega)
            have hkk : (k : Int) ≤ 128 := by omega
            have hcl : ((zs.drop a).take k).length = k := by rw [List.length_take, List.length_drop, HLEN.out]; omega
            have HCL := Lib.hid hcl
            have hway : (¬ (k : Int) < 128) ∨ ((k : Int) < 128 ∧ ¬ P < n) ∨ ((k : Int) < 128 ∧ P < n ∧ ¬ x2 < 3) := by omega
            clear he hP hgo hcl
            rcases hway with i1 | ⟨i1, i2⟩ | ⟨i1, i2, i3⟩
            all_goals
              first
                | (have HR2 := Lib.hid (rowC A n c _ P zs (wr.drewN q) (HBY.out.drewN q) hn i2 x2 hx2)
                   have i2i : (P : Int) < n := by omega
                   have i3i : ¬ (x2 : Int) < 3 := by omega)
                | (have i2i : ¬ (P : Int) < n := by omega
                   have i2d : decide ((P : Int) < n) = false := decide_eq_false i2i
                   have i2e : decide (P < n) = false := decide_eq_false i2)
                | skip
              clear hx2
              go_wp2_with (first
                | (go_at_call 22; refine HR2.out.mono ?_; (rintro r w3 ⟨rfl, q3, rfl⟩))
                | (at_builtin; obtain ⟨v7, w7, hrun, hm7, hb7, _⟩ := HAP.out _; obtain ⟨A7, c7, rfl, _⟩ := hm7.byt; refine Lib.wpList_append_run_sl _ rfl (.tmp 49) (.tmp 53) 23 rfl _ _ rfl rfl hrun ?_; clear hrun; have HB7 := Lib.hid (((below_drewN HBE.out _).alloc HSZ.out (.cells #[.int .u8 V] 5)).trans hb7); have HAP2 := Lib.hid (hm7.appendT (HCUT.out _ HB7.out) 23 (by have := HOL.out; omega) HB7.out.size); clear hm7 hb7)
                | (at_builtin; obtain ⟨v8, w8, hrun, hm8, hb8, _⟩ := HAP2.out; obtain ⟨A8, c8, rfl, _⟩ := hm8.byt; refine Lib.wpList_append_run_sl _ rfl (.tmp 55) (.tmp 61) 23 rfl _ _ rfl rfl hrun ?_; clear hrun; have HM8 := Lib.hid hm8; have HB8 := Lib.hid (HB7.out.trans hb8); clear hm8 hb8))
              exact ⟨⟨P, f, O ++ [V] ++ (zs.drop a).take k, HLT.out.2, rfl, Lib.hid ⟨by have := HE3.out.1; have := HLT.out.1; omega, by rw [List.append_assoc, List.append_assoc]; exact HE3.out.2⟩, Lib.hid (by rw [List.length_append, List.length_append, HCL.out]; exact HM8.out), HB8⟩, by have := HLT.out; simp [intOf]; omega⟩
    · obtain rfl : a = n := by omega
      have he := HE.out.2
      rw [enc_out zs f a (by rw [HLEN.out]; exact Nat.le_refl _), List.append_nil] at he
      subst he
      have HAP := Lib.hid ((HM.out.kept ((Below.refl _ _).alloc (Nat.le_refl _) (.cells #[.int .u8 128] 5))).appendT (byt_lit0 wr 128 (by omega)) 23 (by have := HOL.out; omega) (by have := HSZ.out; simp; omega))
      clear HFB HE
      go_wp2_with (at_builtin; obtain ⟨v7, w7, hrun, hm7, hb7, _⟩ := HAP.out; obtain ⟨A7, c7, rfl, _⟩ := hm7.byt; refine Lib.wpList_append_run_sl _ rfl (.tmp 66) (.tmp 67) 23 rfl _ _ rfl rfl hrun ?_; clear hrun; have HM7 := Lib.hid hm7; have HB7 := Lib.hid ((HBE.out.alloc HSZ.out (.cells #[.int .u8 128] 5)).trans hb7); clear hm7 hb7)
      go_ret
      exact ⟨_, rfl, by rw [HEND.out, List.length_append]; exact HM7.out, HB7.out⟩
end Go.Proofs.Ytnalaenanopnbaa
