/- Chapter 7, the program's own: parts put together, how many alike, how many as they are. -/
import Derived.Test.YtnalaenanopnbaaRw7
namespace Go.Proofs.Ytnalaenanopnbaa
open Go.RowKit
set_option linter.unusedVariables false
set_option maxRecDepth 100000

/-- Of what was there, the row's own block alone may have changed; the new row lies there or in new memory. -/
structure KeepX (v : Value) (w : World) (v' : Value) (w' : World) : Prop where
  os : w'.os = w.os
  tape : w'.tape = w.tape
  output : w'.output = w.output
  size : w.heap.size ≤ w'.heap.size
  block : ∀ i, i < w.heap.size → v.ownBlock ≠ some i → w'.heap[i]? = w.heap[i]?
  own : ∀ b, v'.ownBlock = some b → v.ownBlock = some b ∨ w.heap.size ≤ b
section
variable {v v' v'' : Value} {w w' w'' : World}
theorem KeepX.refl (v : Value) (w : World) : KeepX v w v w := ⟨rfl, rfl, rfl, Nat.le_refl _, fun _ _ _ => rfl, fun _ h => .inl h⟩
theorem KeepX.trans (h : KeepX v w v' w') (k : KeepX v' w' v'' w'') : KeepX v w v'' w'' := by
  refine ⟨k.os.trans h.os, k.tape.trans h.tape, k.output.trans h.output, Nat.le_trans h.size k.size, fun i hi hne => (k.block i (Nat.lt_of_lt_of_le hi h.size) (fun e => ?_)).trans (h.block i hi hne), fun b hb => ?_⟩
  · rcases h.own i e with h1 | h1
    · exact hne h1
    · omega
  · rcases k.own b hb with h1 | h1
    · exact h.own b h1
    · exact .inr (Nat.le_trans h.size h1)
theorem KeepX.drewN (h : KeepX v w v' w') (k : Nat) : KeepX v w v' (w'.drewN k) := ⟨h.os, h.tape, h.output, h.size, h.block, h.own⟩
theorem KeepX.below (h : KeepX v w v' w') {base : Nat} (hb : base ≤ w.heap.size) (ho : ∀ b, v.ownBlock = some b → base ≤ b) : Below base w w' :=
  ⟨h.os, h.tape, h.output, h.size, fun k hk => h.block k (Nat.lt_of_lt_of_le hk hb) (fun e => by have := ho k e; omega)⟩
theorem KeepX.start (h : KeepX v w' v' w'') (hb : Below w.heap.size w w') : KeepX v w v' w'' :=
  ⟨h.os.trans hb.os, h.tape.trans hb.tape, h.output.trans hb.output, Nat.le_trans hb.size h.size, fun i hi hne => (h.block i (Nat.lt_of_lt_of_le hi hb.size) hne).trans (hb.block i hi),
    fun b hb' => by
      rcases h.own b hb' with h1 | h1
      · exact .inl h1
      · exact .inr (Nat.le_trans hb.size h1)⟩
end
/-- A slice lies not in the row's own block. -/
def Off (v : Value) (A : Option Addr) (n : Nat) : Prop := 0 < n → ∀ b o, A = some ⟨b, o, none⟩ → v.ownBlock ≠ some b
theorem Byt.keepX {v v' : Value} {w w' : World} {B n c : Nat} {A : Option Addr} {zs : List Int} (h : Byt w B A n c zs) (hk : KeepX v w v' w') (hB : B ≤ w.heap.size) (ho : Off v A n) : Byt w' B A n c zs :=
  ⟨h.len, h.cap, h.rng, fun hn => by
    obtain ⟨b, o, e, hlt, hc⟩ := h.cell hn
    refine ⟨b, o, e, hlt, fun i hi => ?_⟩
    rw [← hc i hi]
    exact World.cell?_of_block (hk.block b (Nat.lt_of_lt_of_le hlt hB) (ho hn b o e))⟩
theorem Mine.owned {w : World} {base p : Nat} {v : Value} {zs : List Int} (h : Mine w base v p zs) (b : Nat) (hb : v.ownBlock = some b) : base ≤ b := by
  rcases h.own.2 with ⟨rfl, _⟩ | ⟨b', cap, cur, rfl, h2, _⟩
  · cases hb
  · injection hb with hb
    dsimp only at hb
    omega
theorem catZ_two (Z : Nat → List Int) : ∀ k, k ≤ 2 → (∀ i, i < k → (Z i).length ≤ 1000000) → (catZ Z k).length ≤ 2000000 := fun k hk h => by
  obtain rfl | rfl | rfl : k = 0 ∨ k = 1 ∨ k = 2 := by omega
  · simp [catZ]
  · have := h 0 (by omega); simp [catZ]; omega
  · have h0 := h 0 (by omega)
    have h1 := h 1 (by omega)
    simp [catZ]; omega
set_option maxHeartbeats 1000000 in
theorem putC (base g k : Nat) (v : Value) (O : List Int) (As : Nat → Option Addr) (Ns Cs : Nat → Nat) (Z : Nat → List Int) (w : World) (hm : Mine w base v O.length O) (hbase : base ≤ w.heap.size)
    (hp : Parts w w.heap.size (some ⟨g, 0, none⟩) k As Ns Cs Z) (hg : v.ownBlock ≠ some g) (hoff : ∀ i, i < k → Off v (As i) (Ns i)) (hk : k ≤ 2) (hO : O.length ≤ 100000000) (hn : ∀ i, i < k → Ns i ≤ 1000000) :
    Calls Try.prog 16 #[v, .slice (some ⟨g, 0, none⟩) k k] w fun r w' => ∃ v', r = .returned v' ∧ Mine w' base v' (O ++ catZ Z k).length (O ++ catZ Z k) ∧ KeepX v w v' w' ∧ Below base w w' := by
  have HP := Lib.hid hp
  have HM := Lib.hid hm
  have HBASE := Lib.hid hbase
  have HOFF := Lib.hid hoff
  have HN := Lib.hid hn
  have HG := Lib.hid hg
  have HCZ := Lib.hid (fun j (hj : j ≤ k) => catZ_two Z j (by omega) (fun i hi => by have := (hp.byt i (by omega)).len; have := hn i (by omega); omega))
  have HOWN := Lib.hid hm.owned
  obtain ⟨A0, c0, hv, _⟩ := hm.byt
  have HV := Lib.hid hv
  rw [hv]
  clear hp hm hbase hoff hn hg hv
  go_enter Try.func16, Try.ntmps16
  go_wp2_with fail
  go_loopw [0, 6, 9] (fun vv _ iv wr => ∃ j : Nat, j ≤ k ∧ iv = .int .i64 j ∧ Hid (Mine wr base vv (O ++ catZ Z j).length (O ++ catZ Z j)) ∧ Hid (KeepX v w vv wr)) (fun _ _ iv _ => k - (intOf iv).toNat)
  case atStart => exact ⟨0, Nat.zero_le _, rfl, Lib.hid (by simp only [catZ, List.append_nil]; rw [← HV.out]; exact HM.out), Lib.hid (by rw [← HV.out]; exact KeepX.refl _ _)⟩
  case round =>
    obtain ⟨j, hj, rfl, HMJ, HKJ⟩ := hrel
    by_cases hlt : j < k
    · obtain ⟨b, o, he, hbl, hc⟩ := HP.out.cell (by omega)
      injection he with he
      injection he with he1 he2 _
      subst he1 he2
      have ck := (World.cell?_of_block (a := ⟨g, 0 + j, none⟩) (HKJ.out.block g hbl HG.out)).trans (hc j hlt)
      rw [Nat.zero_add] at ck
      have hby := (HP.out.byt j hlt).keepX HKJ.out (Nat.le_refl _) (HOFF.out j hlt)
      have hjn : (j : Int) < k := by omega
      obtain ⟨A, hA⟩ : ∃ A, As j = A := ⟨_, rfl⟩
      obtain ⟨N, hN⟩ : ∃ N, Ns j = N := ⟨_, rfl⟩
      obtain ⟨C, hC⟩ : ∃ C, Cs j = C := ⟨_, rfl⟩
      rw [hA, hN, hC] at ck
      have HAP := Lib.hid (HMJ.out.appendT hby 23 (by have := HCZ.out j hj; have := HN.out j hlt; rw [List.length_append]; omega) (Nat.le_trans HBASE.out HKJ.out.size))
      rw [hA, hN, hC] at HAP
      have HL : Hid ((O ++ catZ Z (j + 1)).length = (O ++ catZ Z j).length + N) := Lib.hid (by rw [catZ, ← List.append_assoc, List.length_append, hby.len, hN])
      obtain ⟨A1, c1, rfl, _⟩ := HMJ.out.byt
      clear hby hA hN hC hc
      go_wp2_with (at_builtin; obtain ⟨v6, w6, hrun, hm6, hb6, hbl6, hsz6, hwn6⟩ := HAP.out; refine Lib.wpList_append_run_sl _ rfl (.tmp 13) (.tmp 14) 23 rfl _ _ rfl rfl hrun ?_; clear hrun; have HM6 := Lib.hid hm6; have HK6 := Lib.hid (KeepX.mk hb6.os hb6.tape hb6.output hsz6 hbl6 hwn6); clear hm6 hb6 hbl6 hsz6 hwn6)
      go_roundw
      case rel => exact ⟨j + 1, by omega, by go_num, Lib.hid (by rw [HL.out, catZ, ← List.append_assoc]; exact HM6.out), Lib.hid (HKJ.out.trans HK6.out)⟩
      case measure => simp [intOf]; omega
    · obtain rfl : j = k := by omega
      go_wp2_with fail
      go_ret
      rw [← HV.out]
      exact ⟨_, rfl, HMJ.out, HKJ.out, HKJ.out.below HBASE.out HOWN.out⟩

theorem rowF_drop (zs : List Int) (a : Nat) (ha : a ≤ zs.length) : ∀ f n, rowF (zs.drop a) 0 f n = rowF zs a f n
  | 0, n => by simp [rowF]
  | f + 1, n => by
    rw [rowF, rowF, rowF_drop zs a ha f (n + 1)]
    simp only [List.length_drop, Nat.zero_add, List.getD_eq_getElem?_getD, List.getElem?_drop, Nat.add_zero]
    have : (n < zs.length - a) = (a + n < zs.length) := by apply propext; omega
    simp only [this]
theorem rowS_drop (zs : List Int) (a : Nat) (ha : a ≤ zs.length) : rowS (zs.drop a) 0 = rowS zs a := rowF_drop zs a ha 128 0
theorem litF_drop (zs : List Int) (a : Nat) (ha : a ≤ zs.length) : ∀ f k, litF (zs.drop a) 0 f k = litF zs a f k
  | 0, n => by simp [litF]
  | f + 1, k => by
    rw [litF, litF, litF_drop zs a ha f (k + 1)]
    simp only [List.length_drop, Nat.zero_add]
    by_cases h : a + k < zs.length
    · rw [← rowS_drop (zs.drop a) k (by rw [List.length_drop]; omega), List.drop_drop, rowS_drop zs (a + k) (by omega)]
      have : (k < zs.length - a) = (a + k < zs.length) := by apply propext; omega
      simp only [this]
    · rw [if_neg (by omega), if_neg (by omega)]
theorem litS_drop (zs : List Int) (a : Nat) (ha : a ≤ zs.length) : litS (zs.drop a) 0 = litS zs a := litF_drop zs a ha 127 1

set_option maxHeartbeats 2000000 in
theorem alikeC (A : Option Addr) (n c B : Nat) (ys : List Int) (w : World) (hb : Byt w B A n c ys) (hn : n ≤ 1000000) (x : Nat) (hs : rowS ys 0 = x) :
    Calls Try.prog 15 #[.slice A n c] w fun r w' => r = .returned (.int .i64 x) ∧ ∃ q, w' = w.drewN q := by
  unfold rowS at hs
  have HB := Lib.hid hb
  have HLEN := Lib.hid hb.len
  obtain ⟨m, hm⟩ : ∃ m, min n 128 = m := ⟨_, rfl⟩
  have em : min (n : Int) 128 = m := by omega
  have HMM := Lib.hid hm
  clear hb hm
  go_enter Try.func15, Try.ntmps15
  go_wp2_with fail
  go_loopw [3] (fun iv wr => ∃ k : Nat, k ≤ 128 ∧ iv = .int .i64 k ∧ Hid (rowF ys 0 (128 - k) k = x) ∧ (∃ q, wr = w.drewN q)) (fun iv _ => 128 - (intOf iv).toNat)
  case atStart => exact ⟨0, Nat.zero_le _, rfl, Lib.hid hs, ⟨0, rfl⟩⟩
  case round =>
    obtain ⟨k, hk2, rfl, HS, q, rfl⟩ := hrel
    by_cases h1 : k < m
    · have hk8 : k < 128 := by have := HMM.out; omega
      have hkn : k < n := by have := HMM.out; omega
      have h := HS.out
      obtain ⟨f, hf⟩ : ∃ f, 128 - k = f + 1 := ⟨127 - k, by omega⟩
      rw [hf, rowF, HLEN.out, Nat.zero_add] at h
      have hf2 : 128 - (k + 1) = f := by omega
      obtain ⟨b, o, rfl, _, hc⟩ := HB.out.cell (by omega)
      have c1 := hc k hkn
      have c2 := hc 0 (by omega)
      rw [Nat.add_zero] at c2
      obtain ⟨y, hy⟩ : ∃ y, ys.getD k 0 = y := ⟨_, rfl⟩
      obtain ⟨z, hz⟩ : ∃ z, ys.getD 0 0 = z := ⟨_, rfl⟩
      rw [hy] at h c1
      rw [hz] at h c2
      have g1 : (k : Int) < m := by omega
      have g2 : (k : Int) < n := by omega
      have g0 : (0 : Int) < n := by omega
      clear hy hz hf hs hc
      by_cases h3 : y = z
      · rw [if_pos ⟨hkn, h3⟩, ← hf2] at h
        subst h3
        have HN := Lib.hid h
        clear h hf2
        go_wp2_with fail
        go_quiet (fail)
        go_wp2_with fail
        go_roundw
        case rel => exact ⟨k + 1, by omega, by go_num, HN, ⟨_, by rfl⟩⟩
        case measure => simp [intOf]; omega
      · rw [if_neg (fun hh => h3 hh.2)] at h
        subst h
        have hyz : (y == z) = false := beq_eq_false_iff_ne.2 h3
        clear hf2
        go_wp2_with fail
        go_quiet (fail)
        go_wp2_with fail
        go_ret
        exact ⟨rfl, _, World.drewN_drewN ..⟩
    · have hkx : k = x := by
        have h := HS.out
        by_cases h8 : k < 128
        · obtain ⟨f, hf⟩ : ∃ f, 128 - k = f + 1 := ⟨127 - k, by omega⟩
          rw [hf, rowF, HLEN.out, if_neg (by have := HMM.out; omega)] at h
          exact h
        · rw [show 128 - k = 0 by omega, rowF] at h
          exact h
      subst hkx
      have g1 : decide ((k : Int) < m) = false := decide_eq_false (by omega)
      have g2 : ¬ (k : Int) < m := by omega
      have g4 : decide (k < m) = false := decide_eq_false h1
      clear hs
      go_wp2_with fail
      go_quiet (fail)
      go_wp2_with fail
      go_ret
      exact ⟨rfl, _, World.drewN_drewN ..⟩
end Go.Proofs.Ytnalaenanopnbaa
