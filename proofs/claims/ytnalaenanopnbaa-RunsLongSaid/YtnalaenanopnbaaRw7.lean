/- Chapter 7, the document's own: how many alike stand at a place. -/
import Derived.Test.YtnalaenanopnbaaSi7
import Derived.Test.YtnalaenanopnbaaRn7
import Derived.Deep.Cut
import Derived.Deep.CutBlock
import Derived.Deep.LoopGhost
namespace Go.Proofs.Ytnalaenanopnbaa
open Go.RowKit
set_option linter.unusedVariables false
set_option maxRecDepth 100000

set_option maxHeartbeats 2000000 in
theorem rowC (A : Option Addr) (n c B a : Nat) (zs : List Int) (w : World) (hb : Byt w B A n c zs) (hn : n ≤ 1000000) (ha : a < n) (x : Nat) (hs : rowS zs a = x) :
    Calls Try.prog 22 #[.slice A n c, .int .i64 a] w fun r w' => r = .returned (.int .i64 x) ∧ ∃ q, w' = w.drewN q := by
  unfold rowS at hs
  have HB := Lib.hid hb
  have HLEN := Lib.hid hb.len
  obtain ⟨b, o, rfl, _, hc⟩ := hb.cell (by omega)
  have HC := Lib.hid hc
  clear hb hc
  go_enter Try.func22, Try.ntmps22
  go_wp2_with fail
  go_loopw [5] (fun iv wr => ∃ k : Nat, k ≤ 128 ∧ iv = .int .i64 k ∧ Hid (rowF zs a (128 - k) k = x) ∧ (∃ q, wr = w.drewN q)) (fun iv _ => 128 - (intOf iv).toNat)
  case atStart => exact ⟨0, Nat.zero_le _, rfl, Lib.hid hs, ⟨0, rfl⟩⟩
  case round =>
    obtain ⟨k, hk2, rfl, HS, q, rfl⟩ := hrel
    by_cases h1 : k < 128
    · have h := HS.out
      obtain ⟨f, hf⟩ : ∃ f, 128 - k = f + 1 := ⟨127 - k, by omega⟩
      rw [hf, rowF, HLEN.out] at h
      have hf2 : 128 - (k + 1) = f := by omega
      by_cases h2 : a + k < n
      · obtain ⟨P, hP⟩ : ∃ P, a + k = P := ⟨_, rfl⟩
        rw [hP] at h h2
        have c1 := HC.out P h2
        have c2 := HC.out a ha
        obtain ⟨y, hy⟩ : ∃ y, zs.getD P 0 = y := ⟨_, rfl⟩
        obtain ⟨z, hz⟩ : ∃ z, zs.getD a 0 = z := ⟨_, rfl⟩
        rw [hy] at h c1
        rw [hz] at h c2
        have e1 : (a : Int) + k = P := by omega
        have g1 : (P : Int) < n := by omega
        have g2 : (a : Int) < n := by omega
        have g3 : (k : Int) < 128 := by omega
        clear hP hy hz hf hs
        by_cases h3 : y = z
        · rw [if_pos ⟨h2, h3⟩, ← hf2] at h
          subst h3
          have HN := Lib.hid h
          clear h hf2
          go_wp2_with fail
          go_quiet (fail)
          go_wp2_with fail
          go_roundw
          case rel => exact ⟨k + 1, by omega, by go_num, HN, ⟨_, by rfl⟩⟩
          case measure => simp [intOf]; omega
        · rw [if_neg (fun hh => h3 hh.2)] at h
          subst h
          have hyz : (y == z) = false := beq_eq_false_iff_ne.2 h3
          clear hf2
          go_wp2_with fail
          go_quiet (fail)
          go_wp2_with fail
          go_ret
          exact ⟨rfl, _, World.drewN_drewN ..⟩
      · rw [if_neg (fun hh => h2 hh.1)] at h
        subst h
        obtain ⟨P, hP⟩ : ∃ P, a + k = P := ⟨_, rfl⟩
        have e1 : (a : Int) + k = P := by omega
        have e0 : IntKind.i64.wrap (P : Int) = P := IntWalk.i64_in _ (by omega)
        have g1 : decide ((P : Int) < n) = false := decide_eq_false (by omega)
        have g4 : decide (P < n) = false := decide_eq_false (by omega)
        have g5 : ¬ P < n := by omega
        clear hP h2
        have g3 : (k : Int) < 128 := by omega
        clear hf hf2 hs
        go_wp2_with fail
        go_quiet (fail)
        go_wp2_with fail
        go_ret
        exact ⟨rfl, _, World.drewN_drewN ..⟩
    · have h := HS.out
      have hk8 : k = 128 := by omega
      subst hk8
      have h' : (128 : Nat) = x := by simpa [rowF] using h
      subst h'
      clear h hs
      go_wp2_with fail
      go_quiet (fail)
      go_wp2_with fail
      go_ret
      exact ⟨rfl, _, World.drewN_drewN ..⟩
end Go.Proofs.Ytnalaenanopnbaa
