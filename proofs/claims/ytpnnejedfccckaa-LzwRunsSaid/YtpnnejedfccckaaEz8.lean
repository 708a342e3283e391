/- Chapter 8, the project's own writer: row. -/
import Derived.Test.YtpnnejedfccckaaEy8
namespace Go.Proofs.Ytpnnejedfccckaa
open Go.RowKit
set_option linter.unusedVariables false
set_option maxRecDepth 100000

/-- What is kept of the writer's state between two rows. -/
structure EP (w0 w : World) (zs : List Int) (g B : Nat) (bs : List Nat) (L : List Int) (a f : Nat) (TE : List (List Int)) (told n : Nat) (F : Nat → Int → Option Nat) : Prop where
  ws : WS w0 w g B bs L n F told
  trie : Trie TE F
  nle : n ≤ TE.length
  out : L ++ lzB zs f a TE (frS told) (told == 0) = lzBits zs
  fuel : zs.length ≤ a + f
  tld : a < zs.length → told = TE.length
  tmx : told ≤ 3838
  few : 258 + TE.length < 4096
theorem lzN_fr (told : Nat) (h : told ≤ 3838) : lzN (frS told) (told == 0) = frS (told + 1) := by
  unfold lzN frS
  by_cases h0 : told = 0
  · subst h0; rfl
  · rw [if_pos ⟨by simpa using h0, by omega⟩]; omega
theorem EP.len {w0 w : World} {zs : List Int} {g B a f told n : Nat} {bs : List Nat} {L : List Int} {TE : List (List Int)} {F : Nat → Int → Option Nat} (h : EP w0 w zs g B bs L a f TE told n F) : L.length ≤ 24 * zs.length + 21 := by
  have h1 := congrArg List.length h.out
  have h2 := lzBits_len zs
  rw [List.length_append] at h1
  omega
set_option maxHeartbeats 2000000 in
theorem rowW (w0 : World) (zs : List Int) (g B a f told n N c : Nat) (A : Option Addr) (bs : List Nat) (L : List Int) (TE : List (List Int)) (F : Nat → Int → Option Nat) (w : World) (h : EP w0 w zs g B bs L a f TE told n F) (ha : a < zs.length) (hz : zs.length ≤ 100000) (hb : Byt w0 w0.heap.size A N c (zs.drop a)) :
    Calls Try.prog 17 #[.pointer (some ⟨g, 0, none⟩), .slice A N c] w fun r w' => ∃ (nn : Nat), r = .returned (.int .i64 nn) ∧ 1 ≤ nn ∧ a + nn ≤ zs.length ∧ ∃ bs' L' TE' told' n' F', EP w0 w' zs g B bs' L' (a + nn) (f - 1) TE' told' n' F' := by
  have hN : N = zs.length - a := by have := hb.len; rw [List.length_drop] at this; exact this.symm
  have hll := h.len
  have hTL := h.tld ha
  have HLO := Lib.hid (longestC w0 g B n told N c bs L _ F A TE w h.ws hb (by omega) (by omega) h.trie (by have := h.few; omega))
  have HH := Lib.hid h
  have HB := Lib.hid hb
  have HTM := Lib.hid h.tmx
  have HFEW := Lib.hid h.few
  have htm := h.tmx
  have HNE := Lib.hid hN
  have HTL := Lib.hid hTL
  have HA := Lib.hid ha
  have HZ := Lib.hid hz
  have HLN := Lib.hid hll
  clear h hN hTL ha hz hll hb
  go_enter Try.func17, Try.ntmps17
  go_upto_region 2 with (go_at_call 29; refine HLO.out.mono ?_; (rintro r w1 ⟨row, nn, q, rfl, hn1, hnN, hrow, hno, rfl⟩); have HROW := Lib.hid hrow; have HNO := Lib.hid hno; clear hrow hno)
  have hrl := HROW.out.le
  have hN := HNE.out
  have hTL := HTL.out
  have ha := HA.out
  have hz := HZ.out
  have hll := HLN.out
  have hrl5 : row < 5000 := by have := HFEW.out; omega
  have hanz : a + nn ≤ zs.length := by omega
  have hget : ∀ i, (zs.drop a).getD i 0 = zs.getD (a + i) 0 := fun i => by simp [List.getD]
  have hbest : lzBest zs a TE = (row, nn) := by
    refine HH.out.trie.best ha (by have := (HB.out.getD 0).1; rw [hget] at this; exact this) HROW.out hn1 hanz (fun j t ht hs => ?_)
    by_cases hl : nn < N
    · exact HH.out.trie.stop HROW.out hn1 (by omega) (by rw [← hget]; exact HNO.out hl) j t ht hs
    · have := stL_len zs a t hs
      omega
  have HBEST := Lib.hid hbest
  have HCO := Lib.hid (codeW w0 g B n told row bs L F (w.drewN q) (HH.out.ws.drewN q) (by omega) (by omega) (by omega))
  obtain ⟨L1, hL1⟩ : ∃ L1, L ++ hiB row (wdZ (frS told)) = L1 := ⟨_, rfl⟩
  rw [hL1] at HCO
  have HL1 := Lib.hid hL1
  have HLL : Hid (L1.length ≤ 3000000) := Lib.hid (by rw [← hL1, List.length_append, hiB_len]; have := wdZ_bd (frS told); omega)
  have hout := HH.out.out
  obtain ⟨f1, hf1⟩ : ∃ f1, f = f1 + 1 := ⟨f - 1, by have := HH.out.fuel; omega⟩
  rw [hf1, lzB, if_pos ha, hbest, lzN_fr told htm] at hout
  dsimp only at hout
  rw [← List.append_assoc, hL1] at hout
  have HOUT := Lib.hid hout
  have HF1 := Lib.hid hf1
  clear hL1 hout hf1 hbest hll
  have HANZ := Lib.hid hanz
  have HRL := Lib.hid hrl
  have wt : IntKind.i64.wrap ((told : Int) + 1) = (told : Int) + 1 := IntWalk.i64_in _ (by omega)
  by_cases hl : nn < N
  · have hli : (nn : Int) < N := by omega
    have hzb := HB.out.getD nn
    obtain ⟨b, o, hA, _, hc⟩ := HB.out.cell (by omega)
    subst hA
    have ck := hc nn hl
    obtain ⟨x, hx⟩ : ∃ x, (zs.drop a).getD nn 0 = x := ⟨_, rfl⟩
    rw [hx] at hzb ck
    have HCK : Hid (∀ W, Below w0.heap.size w0 W → W.cell? ⟨b, o + nn, none⟩ = some (.int .u8 x)) := Lib.hid fun W hW => by
      have hby := HB.out.below hW (Nat.le_refl _)
      obtain ⟨b2, o2, hA2, _, hc2⟩ := hby.cell (by omega)
      injection hA2 with hA2
      injection hA2 with e1 e2
      subst e1 e2
      rw [hc2 nn hl, hx]
    have hno := HNO.out hl
    rw [hx] at hno
    have hxz : zs.getD (a + nn) 0 = x := by rw [← hget]; exact hx
    have htk : (zs.drop a).take (nn + 1) = (zs.drop a).take nn ++ [x] := by rw [take_next zs a nn (by omega), hxz]
    have hadd := HH.out.trie.add HROW.out hno
    rw [← htk] at hadd
    have HADD := Lib.hid hadd
    have hnf : frS (told + 1) = 258 + TE.length := by unfold frS; omega
    rw [← hnf] at HADD
    have HNLE := Lib.hid HH.out.nle
    clear hc hx hno htk hadd ck hxz
    by_cases hfull : 258 + (TE.length + 1) = 4096
    · have hf5 : frS (told + 1) = 4095 := by omega
      have HEN := Lib.hid (fun bs1 W (hW : WS w0 W g B bs1 L1 n F (told + 1)) => enterF w0 g B n (told + 1) row x bs1 L1 F W hW hrl5 hzb.1 hzb.2 (by have := HNLE.out; have := HFEW.out; omega) (by omega) (by have := HLL.out; omega) hf5)
      have hout := HOUT.out
      rw [if_pos (by omega), if_pos hfull, ← List.append_assoc] at hout
      have HOUT2 := Lib.hid hout
      clear hout hnf hf5 hfull hN hTL ha hz hanz hrl hget
      go_wp2_with (first
        | (go_at_call 18; refine HCO.out.mono ?_; (rintro r w2 ⟨rfl, bs2, hw2⟩); have m1 := hw2.c1; have mf := hw2.row.fr 261; have HW2 := Lib.hid (hw2.told_ (told + 1) ((told : Int) + 1) (by omega)); have ck := HCK.out _ HW2.out.low; clear hw2)
        | (go_at_call 30; refine (HEN.out _ _ HW2.out).mono ?_; (rintro r w3 ⟨rfl, bs3, hw3⟩); have HW3 := Lib.hid hw3; clear hw3))
      go_ret
      have hN := HNE.out
      have hTL := HTL.out
      have hanz := HANZ.out
      refine ⟨nn, rfl, hn1, hanz, bs3, _, [], 0, 0, _, ⟨HW3.out, Trie.nil, by simp, ?_, by have := HH.out.fuel; have := HF1.out; omega, fun _ => by simp, by omega, by simp⟩⟩
      rw [HF1.out]
      exact HOUT2.out
    · have hf5 : frS (told + 1) ≠ 4095 := by omega
      have HEN := Lib.hid (fun bs1 W (hW : WS w0 W g B bs1 L1 n F (told + 1)) => enterW w0 g B n (told + 1) row x bs1 L1 F W hW hrl5 hzb.1 hzb.2 (by have := HNLE.out; have := HFEW.out; omega) (by omega) (by have := HLL.out; omega) hf5)
      have hout := HOUT.out
      rw [if_pos (by omega), if_neg hfull] at hout
      have HOUT2 := Lib.hid hout
      have HFU := Lib.hid hfull
      clear hout hnf hf5 hfull hN hTL ha hz hanz hrl hget
      go_wp2_with (first
        | (go_at_call 18; refine HCO.out.mono ?_; (rintro r w2 ⟨rfl, bs2, hw2⟩); have m1 := hw2.c1; have mf := hw2.row.fr 261; have HW2 := Lib.hid (hw2.told_ (told + 1) ((told : Int) + 1) (by omega)); have ck := HCK.out _ HW2.out.low; clear hw2)
        | (go_at_call 30; refine (HEN.out _ _ HW2.out).mono ?_; (rintro r w3 ⟨rfl, hw3⟩); have HW3 := Lib.hid hw3; clear hw3))
      go_ret
      have hN := HNE.out
      have hTL := HTL.out
      have hanz := HANZ.out
      refine ⟨nn, rfl, hn1, hanz, bs2, _, TE ++ [(zs.drop a).take (nn + 1)], told + 1, n + 1, _, ⟨HW3.out, HADD.out, by have := HNLE.out; simp; omega, ?_, by have := HH.out.fuel; have := HF1.out; omega, fun _ => by simp; omega, by have := HFEW.out; omega, by have := HFEW.out; have := HFU.out; simp; omega⟩⟩
      rw [HF1.out]
      exact HOUT2.out
  · have hli : ¬ (nn : Int) < N := by omega
    have hout := HOUT.out
    rw [if_neg (by omega)] at hout
    have HOUT2 := Lib.hid hout
    clear hout hN hTL ha hz hanz hrl hget
    go_wp2_with (go_at_call 18; refine HCO.out.mono ?_; (rintro r w2 ⟨rfl, bs2, hw2⟩); have m1 := hw2.c1; have mf := hw2.row.fr 261; have HW2 := Lib.hid (hw2.told_ (told + 1) ((told : Int) + 1) (by omega)); clear hw2)
    go_ret
    have hN := HNE.out
    have hTL := HTL.out
    have hanz := HANZ.out
    refine ⟨nn, rfl, hn1, hanz, bs2, _, TE, told + 1, n, _, ⟨HW2.out, HH.out.trie, HH.out.nle, ?_, by have := HH.out.fuel; have := HF1.out; omega, fun h => absurd h (by omega), by have := HFEW.out; omega, HFEW.out⟩⟩
    rw [HF1.out]
    exact HOUT2.out
end Go.Proofs.Ytpnnejedfccckaa
