/- Chapter 8, the document's own: how wide a code is, so many bits at a place (the highest first). -/
import Derived.Test.YtpnnejedfccckaaKp8
import Derived.Test.YtpnnejedfccckaaRef1
import Derived.Outline
import Derived.LoopTactic
import Derived.Deep.QuietTactic
import Derived.BigQuiet
namespace Go.Proofs.Ytpnnejedfccckaa
open Go.RowKit
set_option linter.unusedVariables false
set_option maxRecDepth 100000

def wdZ (next : Nat) : Nat := if next < 511 then 9 else if next < 1023 then 10 else if next < 2047 then 11 else 12
theorem wdZ_bd (next : Nat) : 9 ≤ wdZ next ∧ wdZ next ≤ 12 := by unfold wdZ; split <;> (try split) <;> (try split) <;> omega
theorem widthC (next : Nat) (w : World) (hn : next ≤ 100000) : Calls Try.prog 20 #[.int .i64 next] w fun r w' => r = .returned (.int .i64 (wdZ next)) ∧ w = w' := by
  have hways : ((next : Int) < 511 ∧ wdZ next = 9) ∨ (¬ (next : Int) < 511 ∧ (next : Int) < 1023 ∧ wdZ next = 10) ∨ (¬ (next : Int) < 511 ∧ ¬ (next : Int) < 1023 ∧ (next : Int) < 2047 ∧ wdZ next = 11) ∨ (¬ (next : Int) < 511 ∧ ¬ (next : Int) < 1023 ∧ ¬ (next : Int) < 2047 ∧ wdZ next = 12) := by
    unfold wdZ
    split
    · exact .inl ⟨by omega, rfl⟩
    · split
      · exact .inr (.inl ⟨by omega, by omega, rfl⟩)
      · split
        · exact .inr (.inr (.inl ⟨by omega, by omega, by omega, rfl⟩))
        · exact .inr (.inr (.inr ⟨by omega, by omega, by omega, rfl⟩))
  rcases hways with ⟨h1, hw⟩ | ⟨h1, h2, hw⟩ | ⟨h1, h2, h3, hw⟩ | ⟨h1, h2, h3, hw⟩
  all_goals
    rw [hw]
    clear hw
    go_enter Try.func20, Try.ntmps20
    go_wp2
    go_ret
    exact ⟨rfl, rfl⟩

/-- The bit at a place, a byte's highest first. -/
def hbit (zs : List Int) (p : Nat) : Int := zs.getD (p / 8) 0 / 2 ^ (7 - p % 8) % 2
def hbits (zs : List Int) (p : Nat) : Nat → Int
  | 0 => 0
  | k + 1 => hbits zs p k * 2 + hbit zs (p + k)
def highZ (zs : List Int) (p m : Nat) : Int := if 8 * zs.length < p + m then -1 else hbits zs p m
theorem hbit_bd (zs : List Int) (p : Nat) : 0 ≤ hbit zs p ∧ hbit zs p ≤ 1 := by unfold hbit; omega
theorem hbits_bd (zs : List Int) (p : Nat) : ∀ k, 0 ≤ hbits zs p k ∧ hbits zs p k < 2 ^ k
  | 0 => by simp [hbits]
  | k + 1 => by
    have h1 := hbits_bd zs p k
    have h2 := hbit_bd zs (p + k)
    have e : (2 : Int) ^ (k + 1) = 2 ^ k * 2 := Int.pow_succ 2 k
    rw [hbits]
    omega
theorem hbits_le (zs : List Int) (p k : Nat) (hk : k ≤ 11) : 0 ≤ hbits zs p k ∧ hbits zs p k < 2048 := by
  have h := hbits_bd zs p k
  have h2 : (2 : Int) ^ k ≤ 2048 := by
    have hk' : k = 0 ∨ k = 1 ∨ k = 2 ∨ k = 3 ∨ k = 4 ∨ k = 5 ∨ k = 6 ∨ k = 7 ∨ k = 8 ∨ k = 9 ∨ k = 10 ∨ k = 11 := by omega
    rcases hk' with rfl | rfl | rfl | rfl | rfl | rfl | rfl | rfl | rfl | rfl | rfl | rfl <;> decide
  omega
theorem or_low : ∀ v : Fin 2048, ∀ x : Fin 2, bits .or .i64 ((v.val : Int) * 2) (x.val : Int) = (v.val : Int) * 2 + (x.val : Int) := by decide +kernel
theorem and_bit8 (z : Int) (z0 : 0 ≤ z) (z1 : z < 256) : bits .and .u8 z 1 = z % 2 := by
  obtain ⟨a, rfl⟩ : ∃ a : Nat, z = a := ⟨z.toNat, by omega⟩
  have key : ∀ a : Fin 256, bits .and .u8 ((a.val : Nat) : Int) 1 = ((a.val : Nat) : Int) % 2 := by decide +kernel
  exact key ⟨a, by omega⟩
set_option maxHeartbeats 2000000 in
theorem highC (A : Option Addr) (n c B p m : Nat) (zs : List Int) (w : World) (hb : Byt w B A n c zs) (hn : n ≤ 1000000) (hp : p ≤ 100000000) (hm : 0 < m ∧ m ≤ 12) :
    Calls Try.prog 21 #[.slice A n c, .int .i64 p, .int .i64 m] w fun r w' => r = .returned (.int .i64 (highZ zs p m)) ∧ ∃ q, w' = w.drewN q := by
  have HB := Lib.hid hb
  have HL := Lib.hid hb.len
  obtain ⟨m0, m12⟩ := hm
  by_cases hd : 8 * n < p + m
  · have HR : Hid (highZ zs p m = -1) := Lib.hid (by unfold highZ; rw [HL.out, if_pos hd])
    have hdi : (p : Int) + m > 8 * n := by omega
    clear hb
    go_enter Try.func21, Try.ntmps21
    go_wp2_with fail
    go_ret
    exact ⟨by rw [HR.out]; rfl, 0, rfl⟩
  · have HR : Hid (highZ zs p m = hbits zs p m) := Lib.hid (by unfold highZ; rw [HL.out, if_neg hd])
    have hdi : ¬ (p : Int) + m > 8 * n := by omega
    clear hb
    go_enter Try.func21, Try.ntmps21
    go_wp2_with fail
    go_loopw [7, 8] (fun v i wr => ∃ k q : Nat, k ≤ m ∧ i = .int .i64 ((p + k : Nat) : Int) ∧ v = .int .i64 (hbits zs p k) ∧ wr = w.drewN q) (fun _ i _ => p + m - (intOf i).toNat)
    case atStart => exact ⟨0, 0, Nat.zero_le _, rfl, rfl, rfl⟩
    case round =>
      obtain ⟨k, q, hk, rfl, rfl, rfl⟩ := hrel
      by_cases hlt : k < m
      · obtain ⟨b, o, rfl, _, hc⟩ := HB.out.cell (by omega)
        obtain ⟨P, hP⟩ : ∃ P, p + k = P := ⟨_, rfl⟩
        rw [hP]
        obtain ⟨t, ht⟩ : ∃ t, P / 8 = t := ⟨_, rfl⟩
        obtain ⟨r, hr⟩ : ∃ r, P % 8 = r := ⟨_, rfl⟩
        obtain ⟨s, hs⟩ : ∃ s, 7 - r = s := ⟨_, rfl⟩
        have htn : t < n := by omega
        have ck := hc t htn
        have hgz := HB.out.getD t
        have hbt : hbit zs P = zs.getD t 0 / 2 ^ s % 2 := by unfold hbit; rw [ht, hr, hs]
        obtain ⟨z, hz⟩ : ∃ z, zs.getD t 0 = z := ⟨_, rfl⟩
        rw [hz] at ck hgz hbt
        obtain ⟨z0, z1⟩ := hgz
        have hstep : hbits zs p (k + 1) = hbits zs p k * 2 + hbit zs P := by rw [hbits, hP]
        have hvb := hbits_le zs p k (by omega)
        have hxb := hbit_bd zs P
        obtain ⟨v, hv⟩ : ∃ v, hbits zs p k = v := ⟨_, rfl⟩
        obtain ⟨x, hx⟩ : ∃ x, hbit zs P = x := ⟨_, rfl⟩
        rw [hx] at hbt hstep hxb
        rw [hv] at hstep hvb ⊢
        have hdz : 0 ≤ z / 2 ^ s ∧ z / 2 ^ s < 256 := by
          have h2 : (0 : Int) < 2 ^ s := Int.pow_pos (by omega)
          refine ⟨Int.ediv_nonneg z0 (Int.le_of_lt h2), ?_⟩
          have h3 : z / 2 ^ s ≤ z := Int.ediv_le_self _ z0
          omega
        have e1 : (P : Int) / 8 = t := by omega
        have e1' : (P : Int).tdiv 8 = t := by rw [Int.tdiv_eq_ediv_of_nonneg (by omega)]; omega
        have e2 : (P : Int) % 8 = r := by omega
        have e2' : (P : Int).tmod 8 = r := by rw [Int.tmod_eq_emod_of_nonneg (by omega)]; omega
        have e6 : (7 : Int) - r = s := by omega
        have e3 : bits .and .u8 (z / 2 ^ s) 1 = x := by rw [and_bit8 _ hdz.1 hdz.2]; exact hbt.symm
        have e4 : IntKind.i64.wrap (v * 2) = v * 2 := IntWalk.i64_in _ (by omega)
        have e5 : bits .or .i64 (v * 2) x = v * 2 + x := by
          have h := or_low ⟨v.toNat, by omega⟩ ⟨x.toNat, by omega⟩
          dsimp only at h
          rw [show ((v.toNat : Nat) : Int) = v by omega, show ((x.toNat : Nat) : Int) = x by omega] at h
          exact h
        have e7 : wrap64 x = x := by unfold wrap64; omega
        have i1 : (P : Int) < (p : Int) + m := by omega
        have i2 : (t : Int) < n := by omega
        have HST := Lib.hid hstep
        have HP := Lib.hid hP
        have hs8 : (s : Int) < 8 := by omega
        clear hc hbt hz hv hx hstep ht hr hs hP hvb hxb
        go_wp2_with fail
        exact ⟨⟨k + 1, q, hlt, by congr 1; have := HP.out; omega, by rw [HST.out], rfl⟩, by have := HP.out; simp [intOf]; omega⟩
      · obtain rfl : k = m := by omega
        have i1 : ¬ ((p + k : Nat) : Int) < (p : Int) + k := by omega
        go_wp2_with fail
        go_ret
        exact ⟨by rw [HR.out]; rfl, _, rfl⟩
/-- k bits of a number, the highest first. -/
def hiB (c : Int) : Nat → List Int
  | 0 => []
  | k + 1 => c / 2 ^ k % 2 :: hiB c k
theorem hiB_len (c : Int) : ∀ k, (hiB c k).length = k
  | 0 => rfl
  | k + 1 => by rw [hiB, List.length_cons, hiB_len c k]
theorem and_low8 : ∀ v : Fin 4096, bits .and .i64 (v.val : Int) 1 = (v.val : Int) % 2 := by decide +kernel
set_option maxHeartbeats 2000000 in
theorem codeC (base p m : Nat) (v : Value) (zs : List Int) (x : Int) (w : World) (hM : Mine w base v p zs) (hbw : base ≤ w.heap.size) (hp : p ≤ 100000000) (hx : 0 ≤ x ∧ x < 4096) (hm : 0 < m ∧ m ≤ 12) :
    Calls Try.prog 25 #[v, .int .i64 x, .int .i64 m] w fun r w' => ∃ v', r = .returned v' ∧ Mine w' base v' (p + m) (zs ++ hiB x m) ∧ KeepX v w v' w' := by
  obtain ⟨m0, m12⟩ := hm
  obtain ⟨A0, c0, hv, _⟩ := hM.byt
  have HV := Lib.hid hv
  have HM0 := Lib.hid hM
  have HK0 := Lib.hid (KeepX.refl v w)
  rw [hv]
  clear hv
  have HBW := Lib.hid hbw
  have HL := Lib.hid hM.len
  have HX := Lib.hid hx
  clear hM hbw hx
  go_enter Try.func25, Try.ntmps25
  go_wp2_with fail
  go_loopw [0, 7] (fun bv i wr => ∃ (j : Nat) (O : List Int), j ≤ m ∧ i = .int .i64 ((j : Int) - 1) ∧ Hid (O ++ hiB x j = zs ++ hiB x m) ∧ Hid (Mine wr base bv O.length O) ∧ Hid (KeepX v w bv wr)) (fun _ i _ => (intOf i + 1).toNat)
  case atStart => exact ⟨m, zs, Nat.le_refl _, rfl, Lib.hid rfl, Lib.hid (by rw [HL.out, ← HV.out]; exact HM0.out), Lib.hid (by rw [← HV.out]; exact HK0.out)⟩
  case round =>
    obtain ⟨j, O, hj, rfl, HO, HM, HBE⟩ := hrel
    have HOL : Hid (O.length + j = p + m) := Lib.hid (by
      have h := congrArg List.length HO.out
      rw [List.length_append, List.length_append, hiB_len, hiB_len, HL.out] at h
      exact h)
    rcases j with _ | j
    · have i1 : ¬ ((0 : Nat) : Int) - 1 ≥ 0 := by omega
      go_wp2_with fail
      go_ret
      have ho := HO.out
      rw [hiB, List.append_nil] at ho
      rw [← HV.out]
      exact ⟨_, rfl, by rw [← ho, show p + m = O.length by have := HOL.out; omega]; exact HM.out, HBE.out⟩
    · have i0 : ((j + 1 : Nat) : Int) - 1 = j := by omega
      rw [i0]
      have hd : 0 ≤ x / 2 ^ j ∧ x / 2 ^ j < 4096 := by
        have h2 : (0 : Int) < 2 ^ j := Int.pow_pos (by omega)
        refine ⟨Int.ediv_nonneg HX.out.1 (Int.le_of_lt h2), ?_⟩
        have h3 : x / 2 ^ j ≤ x := Int.ediv_le_self _ HX.out.1
        have := HX.out
        omega
      obtain ⟨D, hD⟩ : ∃ D, x / 2 ^ j = D := ⟨_, rfl⟩
      rw [hD] at hd
      obtain ⟨V, hV⟩ : ∃ V, D % 2 = V := ⟨_, rfl⟩
      have e1 : bits .and .i64 D 1 = V := by
        have h := and_low8 ⟨D.toNat, by omega⟩
        dsimp only at h
        rw [show ((D.toNat : Nat) : Int) = D by omega] at h
        rw [h, hV]
      have e2 : IntKind.u8.wrap V = V := IntWalk.u8_in _ (by omega)
      have HV2 : Hid (0 ≤ V ∧ V < 256) := Lib.hid (by omega)
      have HN : Hid (O ++ [V] ++ hiB x j = zs ++ hiB x m) := Lib.hid (by
        have h := HO.out
        rw [hiB, hD, hV] at h
        rw [List.append_assoc]
        exact h)
      have HAP := Lib.hid ((HM.out.kept ((Below.refl _ _).alloc (Nat.le_refl _) (.cells #[.int .u8 V] 5))).appendX (byt_lit0 _ V HV2.out) 23 (by have := HOL.out; omega) (by have := HBE.out.size; have := HBW.out; simp; omega))
      obtain ⟨A1, c1, rfl, _⟩ := HM.out.byt
      have hj12 : (j : Int) < 12 := by omega
      have HAL : Hid (Below wr.heap.size wr (wr.alloc (.cells #[.int .u8 V] 5))) := Lib.hid ((Below.refl _ _).alloc (Nat.le_refl _) _)
      clear hV
      go_wp2_with (at_builtin; obtain ⟨v7, w7, hrun, hm7, hb7⟩ := HAP.out; obtain ⟨A7, c7, rfl, _⟩ := hm7.byt; refine Lib.wpList_append_run_sl _ rfl (.tmp 14) (.tmp 21) 23 rfl _ _ rfl rfl hrun ?_; clear hrun; have HM7 := Lib.hid hm7; have HB7 := Lib.hid (HBE.out.trans (hb7.start HAL.out)); clear hm7 hb7)
      exact ⟨⟨j, O ++ [V], by omega, rfl, HN, Lib.hid (by rw [List.length_append]; exact HM7.out), HB7⟩, by simp [intOf]⟩
end Go.Proofs.Ytpnnejedfccckaa
