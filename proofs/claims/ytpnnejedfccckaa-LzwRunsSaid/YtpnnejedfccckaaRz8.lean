/- Chapter 8, the project's own reader: again. -/
import Derived.Test.YtpnnejedfccckaaRy8
namespace Go.Proofs.Ytpnnejedfccckaa
open Go.RowKit
set_option linter.unusedVariables false
set_option maxRecDepth 100000

/-- Byte by byte from a place on. -/
def cpy (o : List Int) (a : Nat) : Nat → List Int
  | 0 => o
  | k + 1 => cpy (o ++ [o.getD a 0]) (a + 1) k
theorem cpy_len : ∀ (k : Nat) (o : List Int) (a : Nat), (cpy o a k).length = o.length + k
  | 0, o, a => rfl
  | k + 1, o, a => by rw [cpy, cpy_len k, List.length_append, List.length_singleton]; omega
set_option maxHeartbeats 2000000 in
theorem lagain_no (w0 w : World) (kp n c many la ln M a m : Nat) (A : Option Addr) (rest : Int) (tv v : Value) (ps : List (Nat × Nat)) (out : List Int) (h : LR w0 w kp A n c rest many tv ps la ln v out M) (hM : M < out.length + m) (hm : m ≤ 1000000) (hM1 : M ≤ 9223372036854775807) (ho : out.length ≤ 900000000) :
    Calls Try.prog 40 #[.pointer (some ⟨kp, 0, none⟩), .agg #[.int .i64 a, .int .i64 m]] w fun r w' => r = .returned (.int .i64 7) ∧ LR w0 w' kp A n c rest many tv ps la ln v out M := by
  have hb1 := (Below.refl w.heap.size w).alloc (Nat.le_refl _) (.cells #[.int .i64 (a : Int), .int .i64 (m : Int)] 40)
  have h1 := h.more hb1
  have hnew := heap_alloc_new w (.cells #[.int .i64 (a : Int), .int .i64 (m : Int)] 40)
  have k1 := cell_of_row _ _ 1 _ _ (0, 0) hnew
  have c6 := h1.at_ 6
  have c7 := h1.at_ 7
  obtain ⟨W1, hW1⟩ : ∃ W1, w.alloc (.cells #[.int .i64 (a : Int), .int .i64 (m : Int)] 40) = W1 := ⟨_, rfl⟩
  rw [hW1] at h1 k1 c6 c7
  have k1' : W1.cell? ⟨w.heap.size, 1, none⟩ = some (.int .i64 m) := k1
  have c6' : W1.cell? ⟨kp, 6, none⟩ = some v := c6
  have c7' : W1.cell? ⟨kp, 7, none⟩ = some (.int .i64 M) := c7
  have HH := Lib.hid h1
  obtain ⟨A2, c2, hv, _⟩ := h1.row.byt
  subst hv
  obtain ⟨K, hK⟩ : ∃ K, out.length = K := ⟨_, rfl⟩
  rw [hK] at c6'
  have hlm := h.lm
  have wsub : IntKind.i64.wrap ((M : Int) - K) = (M : Int) - K := IntWalk.i64_in _ (by omega)
  have hgt : (m : Int) > (M : Int) - K := by omega
  have hgt2 : (M : Int) - K < (m : Int) := hgt
  clear h hb1 h1 hnew k1 c6 c7 hK hM hlm ho
  go_enter Try.func40, Try.ntmps40
  go_upto_region 1 with fail
  clear hW1
  go_quiet (fail)
  go_wp2_with fail
  go_ret
  exact ⟨rfl, HH.out.drewN _⟩
set_option maxHeartbeats 2000000 in
theorem lagain_ok (w0 w : World) (kp n c many la ln M a m : Nat) (A : Option Addr) (rest : Int) (tv v : Value) (ps : List (Nat × Nat)) (out : List Int) (h : LR w0 w kp A n c rest many tv ps la ln v out M) (hM : out.length + m ≤ M) (hm : m ≤ 1000000) (hM1 : M ≤ 9223372036854775807) (ho : out.length ≤ 900000000) (ha : a < out.length) :
    Calls Try.prog 40 #[.pointer (some ⟨kp, 0, none⟩), .agg #[.int .i64 a, .int .i64 m]] w fun r w' => r = .returned (.int .i64 0) ∧ ∃ v', LR w0 w' kp A n c rest many tv ps la ln v' (cpy out a m) M := by
  have hb1 := (Below.refl w.heap.size w).alloc (Nat.le_refl _) (.cells #[.int .i64 (a : Int), .int .i64 (m : Int)] 40)
  have h1 := h.more hb1
  have hnew := heap_alloc_new w (.cells #[.int .i64 (a : Int), .int .i64 (m : Int)] 40)
  obtain ⟨W1, hW1⟩ : ∃ W1, w.alloc (.cells #[.int .i64 (a : Int), .int .i64 (m : Int)] 40) = W1 := ⟨_, rfl⟩
  have hwz : w.heap.size < W1.heap.size := by rw [← hW1]; simp
  rw [hW1] at h1 hnew
  have k0' : W1.cell? ⟨w.heap.size, 0, none⟩ = some (.int .i64 a) := cell_of_row _ _ 0 _ _ (0, 0) hnew
  have k1' : W1.cell? ⟨w.heap.size, 1, none⟩ = some (.int .i64 m) := cell_of_row _ _ 1 _ _ (0, 0) hnew
  have c6' : W1.cell? ⟨kp, 6, none⟩ = some v := h1.at_ 6
  have c7' : W1.cell? ⟨kp, 7, none⟩ = some (.int .i64 M) := h1.at_ 7
  have HH := Lib.hid h1
  have hkn : kp ≠ w.heap.size := Nat.ne_of_lt h.lt
  have hvl := fun b hb => h.row.lt b hb
  have HVL := Lib.hid hvl
  obtain ⟨A2, c2, hv, _⟩ := h1.row.byt
  subst hv
  obtain ⟨K, hK⟩ : ∃ K, out.length = K := ⟨_, rfl⟩
  rw [hK] at c6'
  have hlm := h.lm
  have wsub : IntKind.i64.wrap ((M : Int) - K) = (M : Int) - K := IntWalk.i64_in _ (by omega)
  have hgt2 : ¬ ((M : Int) - K < (m : Int)) := by omega
  have hgt : ¬ ((m : Int) > (M : Int) - K) := hgt2
  have HNEW := Lib.hid hnew
  have HK := Lib.hid hK
  clear h hb1 h1 hnew hK hlm hvl
  go_enter Try.func40, Try.ntmps40
  go_upto_region 1 with fail
  clear hW1
  go_quiet (fail)
  go_wp2_with fail
  go_loopw [21, 5] (fun iv _ wr => ∃ (i : Nat) (u : Value) (o : List Int), i ≤ m ∧ iv = .int .i64 i ∧ Hid (o.length = out.length + i ∧ cpy o (a + i) (m - i) = cpy out a m) ∧ Hid (LR w0 wr kp A n c rest many tv ps la ln u o M) ∧ Hid (wr.heap[w.heap.size]? = some (.cells #[.int .i64 (a : Int), .int .i64 (m : Int)] 40 (0, 0)) ∧ u.ownBlock ≠ some w.heap.size)) (fun iv _ _ => m - (intOf iv).toNat)
  case atStart => exact ⟨0, _, out, Nat.zero_le _, rfl, Lib.hid ⟨rfl, rfl⟩, Lib.hid (HH.out.drewN _), Lib.hid ⟨HNEW.out, fun e => by have := HVL.out _ e; omega⟩⟩
  case round =>
    obtain ⟨i, u, o, hi, rfl, HO, HL, HB⟩ := hrel
    by_cases hlt : i < m
    · have ho2 := HO.out.1
      have k0 : wr.cell? ⟨w.heap.size, 0, none⟩ = some (.int .i64 a) := cell_of_row _ _ 0 _ _ (0, 0) HB.out.1
      have c6 : wr.cell? ⟨kp, 6, none⟩ = some u := HL.out.at_ 6
      have hgz := HL.out.row.byt
      obtain ⟨A4, c4, hu, hby⟩ := hgz
      subst hu
      have hg := hby.getD (a + i)
      obtain ⟨b, oo, hA4, _, hcl⟩ := hby.cell (by omega)
      subst hA4
      have ck := hcl (a + i) (by omega)
      obtain ⟨z, hz⟩ : ∃ z, o.getD (a + i) 0 = z := ⟨_, rfl⟩
      rw [hz] at hg ck
      have HOS : Hid ((o ++ [z]).length = out.length + (i + 1) ∧ cpy (o ++ [z]) (a + (i + 1)) (m - (i + 1)) = cpy out a m) := Lib.hid (by
        refine ⟨by simp; omega, ?_⟩
        rw [← HO.out.2, show m - i = (m - (i + 1)) + 1 by omega, cpy, hz, Nat.add_assoc])
      have HR := Lib.hid ((HL.out.drewN 1).roomV z hg (by omega) (by omega))
      have c6a : (wr.alloc (.cells #[.int .u8 z] 5)).cell? ⟨kp, 6, none⟩ = some (.slice (some ⟨b, oo, none⟩) o.length c4) := (HL.out.more ((Below.refl _ _).alloc (Nat.le_refl _) _)).at_ 6
      obtain ⟨D, hD⟩ : ∃ D, a + i = D := ⟨_, rfl⟩
      rw [hD] at ck
      have hDl : D < o.length := by omega
      have e0 : (a : Int) + i = D := by omega
      have e1 : IntKind.i64.wrap ((a : Int) + i) = D := by rw [e0]; exact IntWalk.i64_in _ (by omega)
      have e2 : IntKind.u8.wrap z = z := by rw [IntKind.wrap_u8]; omega
      have hii : (i : Int) < m := by omega
      have hwb := HB.out.1
      obtain ⟨v6, w6, hrun, hl6, hf6, hc6, hk6⟩ := HR.out
      obtain ⟨A6, n6, d6, hv6⟩ : ∃ A n c, v6 = .slice A n c := hl6.row.shape3
      subst hv6
      have hws : w.heap.size < wr.heap.size := by
        rcases Nat.lt_or_ge w.heap.size wr.heap.size with h | h
        · exact h
        · rw [Array.getElem?_eq_none h] at hwb; cases hwb
      have HB6 : Hid ((w6.setCell ⟨kp, 6, none⟩ (.slice A6 n6 d6)).heap[w.heap.size]? = some (.cells #[.int .i64 (a : Int), .int .i64 (m : Int)] 40 (0, 0)) ∧ (Value.slice A6 n6 d6).ownBlock ≠ some w.heap.size) := Lib.hid ⟨(Below.heap_setCell w6 ⟨kp, 6, none⟩ _ w.heap.size (fun e => hkn e.symm)).trans ((hk6.block _ hws HB.out.2).trans hwb), fun e => by
        rcases hk6.own _ e with h | h
        · exact HB.out.2 h
        · have h : wr.heap.size ≤ w.heap.size := h
          omega⟩
      have HRUN := Lib.hid hrun
      have HL6 := Lib.hid hl6
      have HKN := Lib.hid hkn
      have HWZ := Lib.hid hwz
      clear ho2 hby hcl hz hD hrun hl6 hk6 hws hwb e0 hkn hwz
      go_upto_region 6 with fail
      go_region_law (refine step_appendL rfl (.tmp 28) (.tmp 39) 23 rfl _ _ rfl rfl HRUN.out ?_)
      all_goals
        go_wp2_with fail
        go_roundw
        case rel => exact ⟨i + 1, _, o ++ [z], by omega, by go_num, HOS, HL6, HB6⟩
        case measure => simp [intOf]; omega
    · obtain rfl : m = i := by omega
      go_wp2_with fail
      go_ret
      have h1 := HO.out.2
      rw [Nat.sub_self] at h1
      have h2 := HL.out
      rw [show o = cpy out a m from h1] at h2
      exact ⟨rfl, u, h2⟩
end Go.Proofs.Ytpnnejedfccckaa
