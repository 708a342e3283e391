/- Chapter 7, the program's own reader: read. -/
import Derived.Test.YtnalaenanopnbaaPd7
namespace Go.Proofs.Ytnalaenanopnbaa
open Go.RowKit
set_option linter.unusedVariables false
set_option maxRecDepth 100000

set_option maxHeartbeats 4000000 in
theorem readC (w0 : World) (base kp M L N : Nat) (R : List Int × Int) (w : World) (h : RSt w0 base kp M L R w N) (hL2 : L ≤ 100000000) (hM : (M : Int) ≤ 9223372036854775807) (hN : N ≤ 1000000) :
    Calls Try.prog 14 #[.pointer (some ⟨kp, 0, none⟩)] w fun r w' => ∃ e : Int, r = .returned (.int .i64 e) ∧ Below base w0 w' ∧ ((¬ e = 0 ∧ R = ([], e)) ∨ (e = 0 ∧ ∃ (A : Option Addr) (n c : Nat) (v : Value) (out : List Int), RS w' base kp A n c v out M ∧ R = (out, 0))) := by
  have H := Lib.hid h
  have HM := Lib.hid hM
  clear h hM
  go_enter Try.func14, Try.ntmps14
  go_wp2_with fail
  go_loopg [3, 4] (N + 1) (fun g _ _ wr => ∃ n, n < g ∧ Hid (RSt w0 base kp M L R wr n))
  case atStart => exact ⟨N, Nat.lt_succ_self _, H⟩
  case round =>
    obtain ⟨N1, hg, HR⟩ := hrel
    obtain ⟨hbe, A, n, c, v, out, ys, hnN, hs, hy, hol, hrd⟩ := HR.out
    have HBE := Lib.hid hbe
    have HS := Lib.hid hs
    have HY := Lib.hid hy
    have hlen := (hy w0 (Below.refl _ _)).len
    have hcap := (hy w0 (Below.refl _ _)).cap
    have k0 := hs.c0
    have f0 := hs.fr 0
    by_cases hlt : 0 < n
    · obtain ⟨z, l, rfl⟩ : ∃ z l, ys = z :: l := by
        cases ys with
        | nil => simp at hlen; omega
        | cons z l => exact ⟨z, l, rfl⟩
      have hz := (hy w0 (Below.refl _ _)).rng z (by simp)
      obtain ⟨b, o, rfl, hbl, hc⟩ := (hy wr hbe).cell (by omega)
      have c1 := hc 0 hlt
      rw [Nat.add_zero, show (z :: l).getD 0 0 = z from rfl] at c1
      have hsl : ∀ W, (Instr.slice 23 (.slice (some ⟨b, o, none⟩) n c) (some (.int .i64 1)) none none).run Try.prog W = .ok (.slice (cutA (some ⟨b, o, none⟩) c 1) (n - 1) (c - 1)) W := fun W =>
        run_cutR (P := Try.prog) W 23 5 Try.underlying23 (fun w => by kernel_rfl) (some ⟨b, o, none⟩) n c 1 hlt hcap
      have HYN : Hid (∀ W, Below base w0 W → Byt W base (cutA (some ⟨b, o, none⟩) c 1) (n - 1) (c - 1) l) := Lib.hid (fun W hW => (hy W hW).rest (l := 1) hlt)
      obtain ⟨A9, hA9⟩ : ∃ A9, cutA (some ⟨b, o, none⟩) c 1 = A9 := ⟨_, rfl⟩
      obtain ⟨n9, hn9⟩ : ∃ n9, n - 1 = n9 := ⟨_, rfl⟩
      obtain ⟨c9, hc9⟩ : ∃ c9, c - 1 = c9 := ⟨_, rfl⟩
      rw [hA9, hn9, hc9] at hsl HYN
      have HS2 := Lib.hid (hs.setB A9 n9 c9)
      have HBE2 := Lib.hid (hbe.trans (hs.belowSet 0 (.slice A9 n9 c9)))
      have hlti : (n : Int) > 0 := by omega
      have h0n : (0 : Int) < n := by omega
      have HN9 : Hid (n9 + 1 = n) := Lib.hid (by omega)
      by_cases h128 : z = 128
      · subst h128
        rw [rd_end] at hrd
        have HRD := Lib.hid hrd
        clear hbe hs hy hlen hrd hol hc hA9 hn9 hc9 HR
        go_wp2_with fail
        go_ret
        exact ⟨0, rfl, HBE2.out, .inr ⟨rfl, _, _, _, _, _, HS2.out, HRD.out.symm⟩⟩
      · have hne : (z == 128) = false := beq_eq_false_iff_ne.2 h128
        have HPC := Lib.hid (partC w0 base kp M L R A9 n9 c9 v out l z _ HS2.out HBE2.out HYN.out hz h128 (by omega) hL2 HM.out (by omega) hrd)
        have wz : IntKind.i64.wrap z = z := IntWalk.i64_in _ (by omega)
        clear hbe hs hy hlen hrd hol hc hA9 hn9 hc9 HR hz
        go_wp2_with (go_at_call 23; refine HPC.out.mono ?_; (rintro r w3 ⟨e, rfl, hp⟩); have HP := Lib.hid hp; clear hp)
        · rename_i hb
          have he : ¬ e = 0 := by simpa [bne] using hb
          go_ret
          refine ⟨e, rfl, ?_⟩
          rcases HP.out with ⟨_, h2, h3⟩ | ⟨h1, _⟩
          · exact ⟨h3, .inl ⟨he, h2⟩⟩
          · exact absurd h1 he
        · rename_i hb
          have he : e = 0 := by simpa [bne] using hb
          have HX : Hid (RSt w0 base kp M L R w3 n9) := Lib.hid (by
            rcases HP.out with ⟨h1, _⟩ | ⟨_, h2⟩
            · exact absurd he h1
            · exact h2)
          go_roundg (gk - 1)
          case rel => exact ⟨n9, by have := HN9.out; omega, HX⟩
          case measure => omega
    · obtain rfl : n = 0 := by omega
      have hnil : ys = [] := List.eq_nil_of_length_eq_zero hlen
      subst hnil
      rw [rd_nil] at hrd
      have HRD := Lib.hid hrd
      clear hbe hs hy hlen hrd hol HR
      go_wp2_with fail
      go_ret
      exact ⟨2, rfl, HBE.out, .inl ⟨by decide, HRD.out.symm⟩⟩
end Go.Proofs.Ytnalaenanopnbaa
