/- The document's own Unzlib (chapter 4): its contract. -/
import Derived.Test.YtginbilakdenmaaRef4BlkC
import Derived.Test.YtginbilakdenmaaRef3
import Derived.Test.YtginbilakdenmaaRef1
namespace Go.Proofs.Ytginbilakdenmaa
open Go.RowKit
set_option linter.unusedVariables false
set_option maxRecDepth 100000

/-- The two bytes ahead. -/
def headB (z0 z1 : Int) : Prop := z0 % 16 = 8 ∧ z0 / 16 ≤ 7 ∧ (z0 * 256 + z1) % 31 = 0 ∧ z1 / 32 % 2 = 0
instance (z0 z1 : Int) : Decidable (headB z0 z1) := by unfold headB; exact inferInstance
def unzS (zs : List Int) (M : Nat) : List Int × Nat × Int :=
  if zs.length < 2 then ([], 0, 2)
  else if ¬ headB (zs.getD 0 0) (zs.getD 1 0) then ([], 0, 4)
  else if ¬ (blocksS (zs.drop 2) M).2.2 = 0 then ([], 0, (blocksS (zs.drop 2) M).2.2)
  else if (zs.length : Int) - 2 - (blocksS (zs.drop 2) M).2.1 < 4 then ([], 0, 2)
  else if ¬ numZ ((zs.drop (2 + (blocksS (zs.drop 2) M).2.1)).take 4) = moreV 1 (blocksS (zs.drop 2) M).1 then ([], 0, 10)
  else ((blocksS (zs.drop 2) M).1, (blocksS (zs.drop 2) M).2.1 + 6, 0)
theorem blocksR_n (zs : List Int) (M : Nat) : ∀ (F p : Nat) (out : List Int), p ≤ 8 * zs.length → (blocksR zs M F p out).2.1 ≤ zs.length
  | 0, _, _, _ => Nat.zero_le _
  | F + 1, p, out, h => by
    rw [blocksR]
    have h1 := blockS_p zs M p out h
    split
    · exact Nat.zero_le _
    · split
      · dsimp only; omega
      · exact blocksR_n zs M F _ _ h1.1
theorem blocksS_n (zs : List Int) (M : Nat) : (blocksS zs M).2.1 ≤ zs.length := blocksR_n zs M _ 0 [] (Nat.zero_le _)
theorem and15 (z : Int) (z0 : 0 ≤ z) (z1 : z < 256) : bits .and .u8 z 15 = z % 16 := by
  obtain ⟨a, rfl⟩ : ∃ a : Nat, z = a := ⟨z.toNat, by omega⟩
  have key : ∀ a : Fin 256, bits .and .u8 ((a.val : Nat) : Int) 15 = ((a.val : Nat) : Int) % 16 := by decide +kernel
  exact key ⟨a, by omega⟩
theorem and32 (z : Int) (z0 : 0 ≤ z) (z1 : z < 256) : bits .and .u8 z 32 = z / 32 % 2 * 32 := by
  obtain ⟨a, rfl⟩ : ∃ a : Nat, z = a := ⟨z.toNat, by omega⟩
  have key : ∀ a : Fin 256, bits .and .u8 ((a.val : Nat) : Int) 32 = ((a.val : Nat) : Int) / 32 % 2 * 32 := by decide +kernel
  exact key ⟨a, by omega⟩

set_option maxRecDepth 100000 in
set_option maxHeartbeats 4000000 in
theorem refUnz (A : Option Addr) (n c M : Nat) (m : Int) (zs : List Int) (w : World) (hb : Byt w w.heap.size A n c zs) (hn : n ≤ 100000000) (hM : M ≤ 100000000) (hm : max m 0 = M) (m0 : -9223372036854775808 ≤ m) :
    Calls Try.prog 23 #[.slice A n c, .int .i64 m] w (FlowPost w (unzS zs M)) := by
  have HLEN := Lib.hid hb.len
  by_cases h2 : n < 2
  · have hu : unzS zs M = ([], 0, 2) := by unfold unzS; rw [hb.len, if_pos h2]
    have HU := Lib.hid hu
    clear hu hb
    go_enter Try.func23, Try.ntmps23
    go_wp2
    go_ret3
    exact ⟨none, 0, by rw [HU.out]; rfl, by rw [HU.out]; exact Byt.none_ _ _, by rw [HU.out]; exact Nat.zero_le _, Below.refl _ _⟩
  · obtain ⟨b, o, rfl, hblt, hc⟩ := hb.cell (by omega)
    have c0 := hc 0 (by omega)
    have c1 := hc 1 (by omega)
    rw [Nat.add_zero] at c0
    have g0 := hb.getD 0
    have g1 := hb.getD 1
    have hcap := hb.cap
    have hu : unzS zs M = if ¬ headB (zs.getD 0 0) (zs.getD 1 0) then ([], 0, 4) else if ¬ (blocksS (zs.drop 2) M).2.2 = 0 then ([], 0, (blocksS (zs.drop 2) M).2.2) else if (zs.length : Int) - 2 - (blocksS (zs.drop 2) M).2.1 < 4 then ([], 0, 2) else if ¬ numZ ((zs.drop (2 + (blocksS (zs.drop 2) M).2.1)).take 4) = moreV 1 (blocksS (zs.drop 2) M).1 then ([], 0, 10) else ((blocksS (zs.drop 2) M).1, (blocksS (zs.drop 2) M).2.1 + 6, 0) := by unfold unzS; rw [if_neg (by rw [hb.len]; exact h2)]
    obtain ⟨z0, hz0⟩ : ∃ z, zs.getD 0 0 = z := ⟨_, rfl⟩
    obtain ⟨z1, hz1⟩ : ∃ z, zs.getD 1 0 = z := ⟨_, rfl⟩
    rw [hz0] at c0 g0 hu
    rw [hz1] at c1 g1 hu
    obtain ⟨g00, g01⟩ := g0
    obtain ⟨g10, g11⟩ := g1
    have e15 := and15 z0 g00 g01
    have eW0 : IntKind.i64.wrap z0 = z0 := IntWalk.i64_in _ (by omega)
    have eW1 : IntKind.i64.wrap z1 = z1 := IntWalk.i64_in _ (by omega)
    have eA : IntKind.i64.wrap (z0 * 256) = z0 * 256 := IntWalk.i64_in _ (by omega)
    have eB : IntKind.i64.wrap (z0 * 256 + z1) = z0 * 256 + z1 := IntWalk.i64_in _ (by omega)
    have eC : (z0 * 256 + z1).tmod 31 = (z0 * 256 + z1) % 31 := Int.tmod_eq_emod_of_nonneg (by omega)
    have e32 := and32 z1 g10 g11
    obtain ⟨X1, hX1⟩ : ∃ x, z0 % 16 = x := ⟨_, rfl⟩
    obtain ⟨X4, hX4⟩ : ∃ x, z1 / 32 % 2 = x := ⟨_, rfl⟩
    rw [hX1] at e15
    rw [hX4] at e32
    have HB := Lib.hid hb
    have HU := Lib.hid hu
    have HX1 := Lib.hid hX1
    have HX4 := Lib.hid hX4
    have h01 : (0 : Int) < n := by omega
    have h11 : (1 : Int) < n := by omega
    have h0n : 0 < n := by omega
    have h1n : 1 < n := by omega
    clear hb hc hu hX1 hX4 hz0 hz1
    by_cases k1 : X1 = 8
    · subst k1
      by_cases k2 : z0 / 16 ≤ 7
      · obtain ⟨R, hR⟩ : ∃ R, (z0 * 256 + z1) % 31 = R := ⟨_, rfl⟩
        have eD : (z0 * 256 + z1).tmod 31 = R := eC.trans hR
        have d7 : decide (7 < z0 / 16) = false := decide_eq_false (by omega)
        clear eC
        by_cases k3 : R = 0
        · subst k3
          have h4 : X4 = 0 ∨ X4 = 1 := by have := HX4.out; omega
          rcases h4 with h4 | h4
          · subst h4
            have HU2 : Hid (unzS zs M = if ¬ (blocksS (zs.drop 2) M).2.2 = 0 then ([], 0, (blocksS (zs.drop 2) M).2.2) else if (zs.length : Int) - 2 - (blocksS (zs.drop 2) M).2.1 < 4 then ([], 0, 2) else if ¬ numZ ((zs.drop (2 + (blocksS (zs.drop 2) M).2.1)).take 4) = moreV 1 (blocksS (zs.drop 2) M).1 then ([], 0, 10) else ((blocksS (zs.drop 2) M).1, (blocksS (zs.drop 2) M).2.1 + 6, 0)) := Lib.hid (by rw [HU.out, if_neg (fun h => h ⟨HX1.out, k2, hR, HX4.out⟩)])
            have hxn := blocksS_n (zs.drop 2) M
            obtain ⟨⟨xo, xn, xe⟩, hx⟩ : ∃ x, blocksS (zs.drop 2) M = x := ⟨_, rfl⟩
            rw [hx] at HU2 hxn
            dsimp only at HU2 hxn
            rw [List.length_drop, HLEN.out] at hxn
            rw [HLEN.out] at HU2
            have hcut := HB.out.cut (l := 2) (m := n - 2) (by omega)
            rw [List.take_of_length_le (by rw [List.length_drop, HLEN.out]; omega)] at hcut
            have HCUT := Lib.hid hcut
            have HX := Lib.hid hx
            have hnc : n - 2 ≤ c - 2 := by omega
            have HBL := Lib.hid (fun (A2 : Option Addr) (c2 : Nat) (q : Nat) (h : Byt w w.heap.size A2 (n - 2) c2 (zs.drop 2)) => hx ▸ refBlocks A2 (n - 2) c2 M m (zs.drop 2) (w.drewN q) (h.drewN q) (by omega) hM hm m0)
            clear hcut hx
            by_cases hn2 : n = 2
            · subst hn2
              have hdz : zs.drop 2 = [] := List.drop_of_length_le (by rw [HLEN.out]; exact Nat.le_refl _)
              have hx0 := HX.out
              rw [hdz, show blocksS [] M = ([], 0, 2) from rfl] at hx0
              obtain ⟨rfl, hx1⟩ := Prod.mk.inj hx0
              obtain ⟨rfl, rfl⟩ := Prod.mk.inj hx1
              have HH : Hid (unzS zs M = ([], 0, 2)) := Lib.hid (by rw [HU2.out, if_pos (by decide)])
              have HB0 := Lib.hid (fun (A2 : Option Addr) (c2 : Nat) (q : Nat) => refBlocks A2 0 c2 M m [] (w.drewN q) ⟨rfl, Nat.zero_le _, (fun _ h => by cases h), fun h => absurd h (by omega)⟩ (by omega) hM hm m0)
              clear hx0 hx1 hdz
              by_cases hc2 : c = 2
              · subst hc2
                go_enter Try.func23, Try.ntmps23
                go_wp2
                go_quiet (fail)
                go_wp2_with (go_at_call 24; refine (HB0.out _ _ nq).mono ?_; rintro r w3 ⟨A3, c3, rfl, hby3, hln3, hbl3⟩; have HBL3 : Hid (Below w.heap.size w w3) := Lib.hid ((below_drewN (Below.refl _ _) nq).trans hbl3); clear hby3 hln3 hbl3)
                go_ret3
                exact ⟨none, 0, by rw [HH.out]; rfl, by rw [HH.out]; exact Byt.none_ _ _, by rw [HH.out]; exact Nat.zero_le _, HBL3.out⟩
              · go_enter Try.func23, Try.ntmps23
                go_wp2
                go_quiet (fail)
                go_wp2_with (go_at_call 24; refine (HB0.out _ _ nq).mono ?_; rintro r w3 ⟨A3, c3, rfl, hby3, hln3, hbl3⟩; have HBL3 : Hid (Below w.heap.size w w3) := Lib.hid ((below_drewN (Below.refl _ _) nq).trans hbl3); clear hby3 hln3 hbl3)
                go_ret3
                exact ⟨none, 0, by rw [HH.out]; rfl, by rw [HH.out]; exact Byt.none_ _ _, by rw [HH.out]; exact Nat.zero_le _, HBL3.out⟩
            · have hc2 : ¬ c = 2 := by omega
              rw [cutA_some b o c 2 (by omega)] at HCUT
              by_cases hxe : xe = 0
              · subst hxe
                have hu3 := HU2.out
                rw [if_neg (fun h => h rfl)] at hu3
                by_cases hlt : (n : Int) - 2 - xn < 4
                · rw [if_pos hlt] at hu3
                  have HH := Lib.hid hu3
                  clear hu3
                  go_enter Try.func23, Try.ntmps23
                  go_wp2
                  go_quiet (fail)
                  go_wp2_with (go_at_call 24; refine (HBL.out _ _ nq HCUT.out).mono ?_; rintro r w3 ⟨A3, c3, rfl, hby3, hln3, hbl3⟩; have HBY3 := Lib.hid hby3; have HLN3 := Lib.hid hln3; have HBL3 : Hid (Below w.heap.size w w3) := Lib.hid ((below_drewN (Below.refl _ _) nq).trans hbl3); clear hby3 hln3 hbl3)
                  go_ret3
                  exact ⟨none, 0, by rw [HH.out]; rfl, by rw [HH.out]; exact Byt.none_ _ _, by rw [HH.out]; exact Nat.zero_le _, HBL3.out⟩
                · rw [if_neg hlt] at hu3
                  obtain ⟨S, hS⟩ : ∃ S, 2 + xn = S := ⟨_, rfl⟩
                  obtain ⟨T, hT⟩ : ∃ T, 6 + xn = T := ⟨_, rfl⟩
                  have hSi : 2 + (xn : Int) = S := by omega
                  have hTi : 6 + (xn : Int) = T := by omega
                  have hTS : T - S = 4 := by omega
                  have hST : S ≤ T := by omega
                  have hTn : T ≤ n := by omega
                  have hTc : T ≤ c := by omega
                  have hcS : ¬ c = S := by omega
                  have hcut4 := HB.out.cut (l := S) (m := 4) (by omega)
                  rw [cutA_some b o c S (by omega)] at hcut4
                  rw [hS] at hu3
                  obtain ⟨L4, hL4⟩ : ∃ L, (zs.drop S).take 4 = L := ⟨_, rfl⟩
                  rw [hL4] at hcut4 hu3
                  have hnb := numZ_bd L4 hcut4.rng 4 (by rw [hcut4.len]; omega) (by omega)
                  have hnl := numZ_lt L4 hcut4.rng 4 (by rw [hcut4.len]; omega)
                  rw [List.take_of_length_le (by rw [hcut4.len]; omega)] at hnl
                  obtain ⟨NV, hNV⟩ : ∃ v, numZ L4 = v := ⟨_, rfl⟩
                  rw [hNV] at hnl hu3
                  have hn0 : 0 ≤ NV := hnl.1
                  have hn1 : NV ≤ 4294967295 := by have := hnl.2; omega
                  obtain ⟨AV, hAV⟩ : ∃ v, moreV 1 xo = v := ⟨_, rfl⟩
                  have hab := moreV_bd 1 xo
                  rw [hAV] at hu3 hab
                  have HC4 := Lib.hid hcut4
                  have HNUM := Lib.hid (fun W (h : Byt W w.heap.size (some ⟨b, o + S, none⟩) 4 (c - S) L4) => hNV ▸ refNumber (some ⟨b, o + S, none⟩) 4 (c - S) w.heap.size L4 W h (by omega))
                  have HADL := Lib.hid (fun W B A3 c3 (h : Byt W B A3 xo.length c3 xo) (h2 : xo.length ≤ 9223372036854775807) => hAV ▸ refAdler A3 xo.length c3 B xo W h h2)
                  have hu8 : IntKind.u32.wrap NV = NV := by rw [IntKind.wrap_u32]; omega
                  have HS := Lib.hid hS
                  have HT := Lib.hid hT
                  clear hcut4 hL4 hNV hAV hnb hnl hS hT
                  by_cases hnv : NV = AV
                  · rw [if_neg (fun h => h hnv)] at hu3
                    have HH := Lib.hid hu3
                    have hne : (NV != AV) = false := by simp [hnv]
                    clear hu3 hnv
                    go_enter Try.func23, Try.ntmps23
                    go_wp2
                    go_quiet (fail)
                    go_wp2_with (first
                      | (go_at_call 24; refine (HBL.out _ _ nq HCUT.out).mono ?_; rintro r w3 ⟨A3, c3, rfl, hby3, hln3, hbl3⟩; have HBY3 := Lib.hid hby3; have HLN3 := Lib.hid hln3; have HBL3 : Hid (Below w.heap.size w w3) := Lib.hid ((below_drewN (Below.refl _ _) nq).trans hbl3); clear hby3 hln3 hbl3)
                      | (go_at_call 43; refine (HNUM.out _ (HC4.out.below HBL3.out (Nat.le_refl _))).mono ?_; rintro r w4 ⟨rfl, rfl⟩)
                      | (go_at_call 42; refine (HADL.out _ _ _ _ HBY3.out HLN3.out).mono ?_; rintro r w4 ⟨rfl, rfl⟩))
                    go_ret3
                    refine ⟨A3, c3, ?_, by rw [HH.out]; exact HBY3.out, by rw [HH.out]; exact HLN3.out, HBL3.out⟩
                    rw [HH.out]
                    show Ending.returned (.tuple #[.slice A3 xo.length c3, .int .i64 ((xn : Int) + 6), .int .i64 0]) = .returned (.tuple #[.slice A3 xo.length c3, .int .i64 ((xn + 6 : Nat) : Int), .int .i64 0])
                    rw [Int.natCast_add]
                    rfl
                  · rw [if_pos hnv] at hu3
                    have HH := Lib.hid hu3
                    have hne : (NV != AV) = true := by simpa using hnv
                    clear hu3 hnv
                    go_enter Try.func23, Try.ntmps23
                    go_wp2
                    go_quiet (fail)
                    go_wp2_with (first
                      | (go_at_call 24; refine (HBL.out _ _ nq HCUT.out).mono ?_; rintro r w3 ⟨A3, c3, rfl, hby3, hln3, hbl3⟩; have HBY3 := Lib.hid hby3; have HLN3 := Lib.hid hln3; have HBL3 : Hid (Below w.heap.size w w3) := Lib.hid ((below_drewN (Below.refl _ _) nq).trans hbl3); clear hby3 hln3 hbl3)
                      | (go_at_call 43; refine (HNUM.out _ (HC4.out.below HBL3.out (Nat.le_refl _))).mono ?_; rintro r w4 ⟨rfl, rfl⟩)
                      | (go_at_call 42; refine (HADL.out _ _ _ _ HBY3.out HLN3.out).mono ?_; rintro r w4 ⟨rfl, rfl⟩))
                    go_ret3
                    exact ⟨none, 0, by rw [HH.out]; rfl, by rw [HH.out]; exact Byt.none_ _ _, by rw [HH.out]; exact Nat.zero_le _, HBL3.out⟩
              · have hu3 := HU2.out
                rw [if_pos hxe] at hu3
                have HH := Lib.hid hu3
                have hne : (xe != 0) = true := by simpa using hxe
                clear hu3 hxe
                go_enter Try.func23, Try.ntmps23
                go_wp2
                go_quiet (fail)
                go_wp2_with (go_at_call 24; refine (HBL.out _ _ nq HCUT.out).mono ?_; rintro r w3 ⟨A3, c3, rfl, hby3, hln3, hbl3⟩; have HBY3 := Lib.hid hby3; have HLN3 := Lib.hid hln3; have HBL3 : Hid (Below w.heap.size w w3) := Lib.hid ((below_drewN (Below.refl _ _) nq).trans hbl3); clear hby3 hln3 hbl3)
                go_ret3
                exact ⟨none, 0, by rw [HH.out]; rfl, by rw [HH.out]; exact Byt.none_ _ _, by rw [HH.out]; exact Nat.zero_le _, HBL3.out⟩
          · subst h4
            have HH : Hid (unzS zs M = ([], 0, 4)) := Lib.hid (by rw [HU.out, if_pos (fun h => absurd (HX4.out.symm.trans h.2.2.2) (by decide))])
            go_enter Try.func23, Try.ntmps23
            go_wp2
            go_quiet (fail)
            go_wp2
            go_ret3
            exact ⟨none, 0, by rw [HH.out]; rfl, by rw [HH.out]; exact Byt.none_ _ _, by rw [HH.out]; exact Nat.zero_le _, below_drewN (Below.refl _ _) _⟩
        · have hb3 : (R != 0) = true := by simpa using k3
          have HR0 := Lib.hid hR
          have HK3 := Lib.hid k3
          clear k3
          have HH : Hid (unzS zs M = ([], 0, 4)) := Lib.hid (by rw [HU.out, if_pos (fun h => HK3.out (HR0.out.symm.trans h.2.2.1))])
          go_enter Try.func23, Try.ntmps23
          go_wp2
          go_quiet (fail)
          go_wp2
          go_ret3
          exact ⟨none, 0, by rw [HH.out]; rfl, by rw [HH.out]; exact Byt.none_ _ _, by rw [HH.out]; exact Nat.zero_le _, below_drewN (Below.refl _ _) _⟩
      · have hb2 : 7 < z0 / 16 := by omega
        have HH : Hid (unzS zs M = ([], 0, 4)) := Lib.hid (by rw [HU.out, if_pos (fun h => k2 h.2.1)])
        clear k2
        go_enter Try.func23, Try.ntmps23
        go_wp2
        go_quiet (fail)
        go_wp2
        go_ret3
        exact ⟨none, 0, by rw [HH.out]; rfl, by rw [HH.out]; exact Byt.none_ _ _, by rw [HH.out]; exact Nat.zero_le _, below_drewN (Below.refl _ _) _⟩
    · have hb1 : (X1 != 8) = true := by simpa using k1
      have HH : Hid (unzS zs M = ([], 0, 4)) := Lib.hid (by rw [HU.out, if_pos (fun h => k1 (HX1.out.symm.trans h.1))])
      clear k1
      go_enter Try.func23, Try.ntmps23
      go_wp2
      go_quiet (fail)
      go_wp2
      go_ret3
      exact ⟨none, 0, by rw [HH.out]; rfl, by rw [HH.out]; exact Byt.none_ _ _, by rw [HH.out]; exact Nat.zero_le _, below_drewN (Below.refl _ _) _⟩
end Go.Proofs.Ytginbilakdenmaa
