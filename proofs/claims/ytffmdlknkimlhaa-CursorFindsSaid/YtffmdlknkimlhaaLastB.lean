/- What bytes.LastIndex answers, whatever the two slices of bytes. -/
import Derived.Test.YtffmdlknkimlhaaLast
namespace Go.Proofs.Ytffmdlknkimlhaa
open Go.RowKit Go.Lib
set_option linter.unusedVariables false

theorem ofNat_inj (x y : Int) (hx : 0 ≤ x ∧ x < 256) (hy : 0 ≤ y ∧ y < 256) : (UInt8.ofNat x.toNat = UInt8.ofNat y.toNat) ↔ x = y := by
  constructor
  · intro h
    have h2 := congrArg UInt8.toNat h
    simp only [UInt8.toNat_ofNat'] at h2
    omega
  · intro h; rw [h]

theorem bytesOf_length (zs : List Int) : (Lib.bytesOf zs).length = zs.length := by simp [Lib.bytesOf]
theorem bytesOf_get (zs : List Int) (i : Nat) (h : i < zs.length) : (Lib.bytesOf zs)[i]? = some (UInt8.ofNat (zs.getD i 0).toNat) := by
  simp [Lib.bytesOf, List.getD, h]

theorem Byt.bytes {w : World} {B n c : Nat} {A : Option Addr} {zs : List Int} (h : Byt w B A n c zs) (hn : 0 < n) : ∃ b o, A = some ⟨b, o, none⟩ ∧ Lib.Bytes w b o (strOfNums zs) := by
  obtain ⟨b, o, e, _, hc⟩ := h.cell hn
  refine ⟨b, o, e, fun i hi => ?_⟩
  have hi2 : i < zs.length := by rw [strOfNums_size] at hi; exact hi
  rw [hc i (by rw [← h.len]; exact hi2)]
  have hr := h.getD i
  have e2 : (strOfNums zs)[i] = UInt8.ofNat (zs.getD i 0).toNat := by
    have h1 := byte_at (strOfNums zs) i hi
    have h2 := bytesOf_get zs i hi2
    exact Option.some.inj (h1.symm.trans h2)
  rw [e2]
  simp only [UInt8.toNat_ofNat']
  have : ((zs.getD i 0).toNat % 2 ^ 8 : Nat) = (zs.getD i 0).toNat := by omega
  rw [this]
  congr 2
  omega

theorem occ_byte (zs : List Int) (z : Int) (k : Nat) (hk : k < zs.length) (hr : ∀ z ∈ zs, 0 ≤ z ∧ z < 256) (hz : 0 ≤ z ∧ z < 256) : occAt (Lib.bytesOf zs) [UInt8.ofNat z.toNat] k = (zs.getD k 0 == z) := by
  have hl : k < (Lib.bytesOf zs).length := by rw [bytesOf_length]; exact hk
  have e := bytesOf_get zs k hk
  rw [List.getElem?_eq_getElem hl] at e
  injection e with e
  have hrz : 0 ≤ zs.getD k 0 ∧ zs.getD k 0 < 256 := by
    have e3 : zs.getD k 0 = zs[k] := by simp [List.getD, hk]
    rw [e3]; exact hr _ (List.getElem_mem hk)
  have e1 : occAt (Lib.bytesOf zs) [UInt8.ofNat z.toNat] k = (UInt8.ofNat z.toNat == UInt8.ofNat (zs.getD k 0).toNat) := by
    unfold occAt
    rw [List.drop_eq_getElem_cons hl, e]
    simp [List.isPrefixOf]
  rw [e1]
  have h2 := ofNat_inj z (zs.getD k 0) hz hrz
  by_cases h : z = zs.getD k 0
  · rw [← h]; simp
  · have h3 : ¬ UInt8.ofNat z.toNat = UInt8.ofNat (zs.getD k 0).toNat := fun e => h (h2.1 e)
    have h4 : ¬ zs.getD k 0 = z := fun e => h e.symm
    rw [beq_eq_false_iff_ne.2 h3, beq_eq_false_iff_ne.2 h4]

theorem lastByte (A : Option Addr) (n c B : Nat) (zs : List Int) (z : Int) (w : World) (hb : Byt w B A n c zs) (hn : n ≤ 1000000) (hz : 0 ≤ z ∧ z < 256) :
    Calls Try.prog 38 #[.slice A n c, .int .u8 z] w fun e w' => e = .returned (.int .i64 (Lib.lastOcc (Lib.bytesOf zs) [UInt8.ofNat z.toNat] n)) ∧ w = w' := by
  have HB := Lib.hid hb
  have HZ := Lib.hid hz
  clear hb hz
  go_enter Try.func38, Try.ntmps38
  go_wp2
  go_loop [5] (fun vi => ∃ (k : Nat), k ≤ n ∧ vi = .int .i64 ((k : Int) - 1) ∧ Hid (Lib.lastOcc (Lib.bytesOf zs) [UInt8.ofNat z.toNat] n = Lib.lastOcc (Lib.bytesOf zs) [UInt8.ofNat z.toNat] k)) (fun vi => ((RowKit.intOf vi) + 1).toNat)
  case atStart => exact ⟨n, Nat.le_refl _, rfl, rfl⟩
  case round =>
    obtain ⟨k, hk, rfl, hl⟩ := hrel
    cases k with
    | zero =>
      go_wp2
      go_ret
      exact ⟨ret_int hl.out.symm, rfl⟩
    | succ j =>
      obtain ⟨b, o, rfl, _, hc⟩ := HB.out.cell (by omega)
      have ck := hc j (by omega)
      have e1 : ((j + 1 : Nat) : Int) - 1 = (j : Int) := by omega
      rw [e1]
      have ho := occ_byte zs z j (by rw [HB.out.len]; omega) HB.out.rng HZ.out
      have hg := HB.out.getD j
      obtain ⟨x, hx⟩ : ∃ x, zs.getD j 0 = x := ⟨_, rfl⟩
      rw [hx] at ck ho hg
      have HO := Lib.hid ho
      have HZZ := Lib.hid HZ.out
      clear e1 hx hc ho
      by_cases hxz : x = z
      · subst hxz
        have HRES : Hid (Lib.lastOcc (Lib.bytesOf zs) [UInt8.ofNat x.toNat] n = j) := Lib.hid (by rw [hl.out]; exact Lib.lastOcc_hit _ _ j (by rw [HO.out]; simp))
        go_wp2
        go_ret
        exact ⟨ret_int HRES.out.symm, rfl⟩
      · have HRES : Hid (Lib.lastOcc (Lib.bytesOf zs) [UInt8.ofNat z.toNat] n = Lib.lastOcc (Lib.bytesOf zs) [UInt8.ofNat z.toNat] j) := Lib.hid (by rw [hl.out]; exact Lib.lastOcc_miss _ _ j (by rw [HO.out]; simpa using hxz))
        have hb2 : (x == z) = false := beq_eq_false_iff_ne.2 hxz
        go_wp2
        go_round
        case rel => exact ⟨j, by omega, rfl, HRES⟩
        case measure => simp [RowKit.intOf]

theorem lastIndex_nil (s : List UInt8) : Lib.lastIndex s [] = s.length := by
  unfold Lib.lastIndex
  rw [if_pos (show ([] : List UInt8).length ≤ s.length from Nat.zero_le _)]
  exact Lib.lastOcc_hit s [] s.length (by simp [occAt])
theorem lastIndex_longer (s sub : List UInt8) (h : s.length < sub.length) : Lib.lastIndex s sub = -1 := by
  unfold Lib.lastIndex
  rw [if_neg (by omega)]
theorem lastIndex_one (s : List UInt8) (b : UInt8) : Lib.lastIndex s [b] = Lib.lastOcc s [b] s.length := by
  unfold Lib.lastIndex
  rcases Nat.eq_zero_or_pos s.length with h0 | h0
  · rw [if_neg (by simp [h0]), h0]; rfl
  · rw [if_pos (by simp only [List.length_singleton]; omega)]
    congr 1
    simp only [List.length_singleton]; omega
theorem lastIndex_whole (s sub : List UInt8) (h : sub.length = s.length) : Lib.lastIndex s sub = if (s == sub) = true then 0 else -1 := by
  unfold Lib.lastIndex
  rw [if_pos (by omega), show s.length - sub.length + 1 = 0 + 1 by omega]
  have ho : occAt s sub 0 = (s == sub) := by
    rw [RK.occAt_win _ _ _ (by omega), RK.win_zero, List.take_of_length_le (by omega)]
  rcases hq : (s == sub) with _ | _
  · rw [Lib.lastOcc_miss _ _ 0 (by rw [ho]; exact hq)]; rfl
  · rw [Lib.lastOcc_hit _ _ 0 (by rw [ho]; exact hq)]; rfl

theorem lastIndex_any (A A2 : Option Addr) (n c B k c2 B2 : Nat) (zs ys : List Int) (w : World) (hb : Byt w B A n c zs) (hb2 : Byt w B2 A2 k c2 ys) (hn : n ≤ 1000000) (hk : k ≤ 1000000) :
    Calls Try.prog 28 #[.slice A n c, .slice A2 k c2] w fun e w' => e = .returned (.int .i64 (Lib.lastIndex (Lib.bytesOf zs) (Lib.bytesOf ys))) ∧ ∃ q, w' = w.drewN q := by
  have hl1 := hb.len
  have hl2 := hb2.len
  have L1 := bytesOf_length zs
  have L2 := bytesOf_length ys
  by_cases h0 : k = 0
  · subst h0
    obtain rfl : ys = [] := List.eq_nil_of_length_eq_zero hl2
    have HR : Hid (Lib.lastIndex (Lib.bytesOf zs) (Lib.bytesOf []) = n) := Lib.hid (by rw [show Lib.bytesOf [] = [] from rfl, lastIndex_nil, L1, hl1])
    clear hb hb2 hl1 hl2 L1 L2
    go_enter Try.func28, Try.ntmps28
    go_wp2
    go_ret
    exact ⟨ret_int HR.out.symm, 0, rfl⟩
  by_cases h1 : k = 1
  · subst h1
    obtain ⟨z, rfl⟩ : ∃ z, ys = [z] := by
      match ys, hl2 with
      | [z], _ => exact ⟨z, rfl⟩
    obtain ⟨b, o, rfl, _, hc⟩ := hb2.cell (by omega)
    have ck := hc 0 (by omega)
    have ck' : w.cell? ⟨b, o, none⟩ = some (.int .u8 z) := ck
    have HR : Hid (Lib.lastIndex (Lib.bytesOf zs) (Lib.bytesOf [z]) = Lib.lastOcc (Lib.bytesOf zs) [UInt8.ofNat z.toNat] n) := Lib.hid (by rw [show Lib.bytesOf [z] = [UInt8.ofNat z.toNat] from rfl, lastIndex_one, L1, hl1])
    have HL := Lib.hid (lastByte A n c B zs z w hb hn (hb2.rng z (by simp)))
    clear hb hb2 hl1 hl2 L1 L2 hc ck
    go_enter Try.func28, Try.ntmps28
    go_wp2_with (go_at_call 38; refine HL.out.mono ?_; rintro e w' ⟨rfl, rfl⟩)
    go_ret
    exact ⟨ret_int HR.out.symm, 0, rfl⟩
  by_cases hkn : k = n
  · subst hkn
    have hw := lastIndex_whole (Lib.bytesOf zs) (Lib.bytesOf ys) (by omega)
    have HE := Lib.hid (Try.bytes_Equal_all A A2 k c k c2 zs ys w hl1 hl2 hb.inn hb2.inn)
    have hk0 : (k == 0) = false := by simpa using h0
    have hk1 : (k == 1) = false := by simpa using h1
    rcases hq : (Lib.bytesOf zs == Lib.bytesOf ys) with _ | _
    all_goals
      rw [hq] at hw
      have HE2 := HE.out
      rw [hq] at HE2
      have HE3 := Lib.hid HE2
      have HR := Lib.hid hw
      clear hb hb2 hl1 hl2 L1 L2 hw hq HE2
      go_enter Try.func28, Try.ntmps28
      go_wp2_with (go_at_call 34; refine HE3.out.mono ?_; rintro e w' ⟨rfl, hw'⟩; have hw'' := hw'.symm; subst hw'')
      go_ret
      exact ⟨ret_int HR.out.symm, 0, rfl⟩
  by_cases hg : n < k
  · have HR := Lib.hid (lastIndex_longer (Lib.bytesOf zs) (Lib.bytesOf ys) (by omega))
    clear hb hb2 hl1 hl2 L1 L2
    go_enter Try.func28, Try.ntmps28
    go_wp2
    go_ret
    exact ⟨ret_int HR.out.symm, 0, rfl⟩
  obtain ⟨b1, o1, rfl, hs1⟩ := hb.bytes (by omega)
  obtain ⟨b2, o2, rfl, hs2⟩ := hb2.bytes (by omega)
  have z1 : (strOfNums zs).size = n := by rw [strOfNums_size, hl1]
  have z2 : (strOfNums ys).size = k := by rw [strOfNums_size, hl2]
  have hrk := lastRK b1 o1 c b2 o2 c2 (strOfNums zs) (strOfNums ys) (by omega) (by omega) (by omega) w hs1 hs2 (by have := hb.cap; omega)
  rw [z1, z2, strOfNums_data, strOfNums_data] at hrk
  have HRK : Hid (Calls Try.prog 39 #[.slice (some ⟨b1, o1, none⟩) n c, .slice (some ⟨b2, o2, none⟩) k c2] w fun e w' => e = .returned (.int .i64 (Lib.lastIndex (Lib.bytesOf zs) (Lib.bytesOf ys))) ∧ ∃ q, w' = w.drewN q) := Lib.hid hrk
  clear hb hb2 hl1 hl2 L1 L2 hrk z1 z2 hs1 hs2
  go_enter Try.func28, Try.ntmps28
  go_wp2_with (go_at_call 39; refine HRK.out.mono ?_; rintro e w' ⟨rfl, q, rfl⟩)
  go_ret
  exact ⟨rfl, q, rfl⟩
end Go.Proofs.Ytffmdlknkimlhaa
