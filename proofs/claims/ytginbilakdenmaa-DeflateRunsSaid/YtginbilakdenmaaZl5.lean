/- Chapter 5's reference: Fixed. Chapter 5's reference: Big, Zlib. -/
import Derived.Test.YtginbilakdenmaaFix5
import Derived.Test.YtginbilakdenmaaRow5R
import Derived.Test.YtginbilakdenmaaRef5Stored
import Derived.Test.YtginbilakdenmaaRef3
namespace Go.Proofs.Ytginbilakdenmaa
open Go.RowKit
set_option linter.unusedVariables false
set_option maxRecDepth 100000

/-- A row of bits, and blocks that are not its own. -/
structure RK (w : World) (ts : Nat → Prop) (B k : Nat) (v : Value) (L : List Int) : Prop where
  rr : RRow w B k v L
  tk : ¬ ts k
  tv : ∀ b, v.ownBlock = some b → ¬ ts b
  tb : ∀ i, ts i → i < w.heap.size
section
variable {w w' : World} {ts : Nat → Prop} {B k : Nat} {v v' : Value} {L L' : List Int}
theorem RK.put (h : RK w ts B k v L) (hm : RMov w w' k v v') (hr : RRow w' B k v' L') : RK w' ts B k v' L' ∧ Keeps ts w w' := by
  refine ⟨⟨hr, h.tk, fun b hb ht => ?_, fun i hi => Nat.lt_of_lt_of_le (h.tb i hi) hm.size⟩, hm.os, hm.tape, hm.output, hm.size, fun i hi => hm.block i (h.tb i hi) (fun e => h.tk (e ▸ hi)) (fun e => h.tv i e hi)⟩
  rcases hm.own b hb with e | e
  · exact h.tv b e ht
  · have := h.tb b ht; omega
theorem RK.drewN (h : RK w ts B k v L) (n : Nat) : RK (w.drewN n) ts B k v L := ⟨h.rr.drewN n, h.tk, h.tv, h.tb⟩
theorem RRow.more (h : RRow w B k v L) (hb : Below w.heap.size w w') : RRow w' B k v L := h.keep fun i hi _ => hb.block i hi
theorem RK.more (h : RK w ts B k v L) (hb : Below w.heap.size w w') : RK w' ts B k v L ∧ Keeps ts w w' :=
  ⟨⟨h.rr.more hb, h.tk, h.tv, fun i hi => Nat.lt_of_lt_of_le (h.tb i hi) hb.size⟩, hb.os, hb.tape, hb.output, hb.size, fun i hi => hb.block i (h.tb i hi)⟩
end
theorem IRow.keeps {w w' : World} {b : Nat} {xs : List Int} {ts : Nat → Prop} (h : IRow w b xs) (hk : Keeps ts w w') (hb : ts b) : IRow w' b xs := (hk.block b hb).trans h
/-- A row that lies beyond a later block lies beyond an earlier one. -/
theorem Mine.base {w : World} {B B' p : Nat} {v : Value} {zs : List Int} (h : Mine w B' v p zs) (hB : B ≤ B') : Mine w B v p zs := by
  refine ⟨⟨h.own.1, ?_⟩, h.rng⟩
  rcases h.own.2 with h0 | ⟨b, cap, cur, hv, hb, hr⟩
  · exact .inl h0
  · exact .inr ⟨b, cap, cur, hv, Nat.le_trans hB hb, hr⟩
theorem fixR_in (zs : List Int) (f a : Nat) (h : a < zs.length) : fixR zs (f + 1) a = if (bestS zs a).1 < 3 then symB (zs.getD a 0).toNat ++ fixR zs f (a + 1) else lenBits (bestS zs a).1 ++ (disBits (bestS zs a).2 ++ fixR zs f (a + (bestS zs a).1)) := by rw [fixR, if_pos h]
theorem fixR_out (zs : List Int) (f a : Nat) (h : zs.length ≤ a) : fixR zs f a = [] := by
  cases f with
  | zero => rfl
  | succ f => rw [fixR, if_neg (by omega)]
/-- turned, of a symbol. -/
theorem turnSym (B k : Nat) (v : Value) (L : List Int) (s : Nat) (x y : Int) (w : World) (h : RRow w B k v L) (hB : B ≤ w.heap.size) (hL : L.length ≤ 790000000) (hs : s < 288) (hx : (codesS fixLs).getD s 0 = x) (hy : fixLs.getD s 0 = y) :
    Calls Try.prog 38 #[.pointer (some ⟨k, 0, none⟩), .int .i64 x, .int .i64 y] w fun r w' => r = .returned (.tuple #[]) ∧ ∃ v', RRow w' B k v' (L ++ symB s) ∧ RMov w w' k v v' := by
  have hb := fixL_bd ⟨s, hs⟩
  dsimp only at hb
  rw [hx, hy] at hb
  obtain ⟨X, rfl⟩ : ∃ X : Nat, x = X := ⟨x.toNat, by omega⟩
  obtain ⟨Y, rfl⟩ : ∃ Y : Nat, y = Y := ⟨y.toNat, by omega⟩
  have := rturnedC B k v L X Y w h hB hL (by omega) (by omega)
  unfold symB
  rw [hx, hy]
  exact this
set_option maxHeartbeats 8000000 in
theorem refFixed (A : Option Addr) (n c : Nat) (zs : List Int) (w : World) (hb : Byt w w.heap.size A n c zs) (hn : n ≤ 1000000) :
    Calls Try.prog 21 #[.slice A n c] w fun r w' => ∃ v, r = .returned v ∧ Mine w' w.heap.size v (fixedS zs).length (fixedS zs) ∧ Below w.heap.size w w' := by
  have HB := Lib.hid hb
  have HLEN := Lib.hid hb.len
  have hrr0 : RRow (w.alloc (.cells #[.slice none 0 0, .int .i64 0] 35)) w.heap.size w.heap.size (.slice none 0 0) [] := ⟨heap_alloc_new w _, Mine.nil _ _, B01.nil, by simp [Value.ownBlock], Nat.le_refl _⟩
  have hp1 := rputC w.heap.size w.heap.size (.slice none 0 0) [] 1 1 _ hrr0 (by simp) (by simp) (by omega) (by omega)
  rw [show putB [] 1 1 = [1] by decide] at hp1
  have HP1 := Lib.hid hp1
  have hp2 := fun W u (hW : RRow W w.heap.size w.heap.size u [1]) (hs : w.heap.size ≤ W.heap.size) => rputC w.heap.size w.heap.size u [1] 1 2 W hW hs (by simp) (by omega) (by omega)
  rw [show putB [1] 1 2 = [1, 1, 0] by decide] at hp2
  have HP2 := Lib.hid hp2
  have HFX := Lib.hid (fun W => fixedC W)
  have HCD := Lib.hid (fun (W : World) b (hi : IRow W b fixLs) => codesC (some ⟨b, 0, none⟩) 288 288 W.heap.size fixLs W (hi.nums (fixLN_len 288)) (Nat.le_refl _) (by omega))
  have HRR0 := Lib.hid hrr0
  clear hb hrr0 hp1 hp2
  go_enter Try.func21, Try.ntmps21
  go_upto_region 6 with (first
    | (go_at_call 17; with_reducible refine HP1.out.mono ?_; rintro r w2 ⟨rfl, u2, hr2, hm2⟩; have HR2 := Lib.hid hr2; have HM2 := Lib.hid hm2; have HS2 := Lib.hid (Nat.le_trans (show w.heap.size ≤ _ by simp) hm2.size); clear hr2 hm2)
    | (go_at_call 17; with_reducible refine (HP2.out _ _ HR2.out HS2.out).mono ?_; rintro r w3 ⟨rfl, u3, hr3, hm3⟩; have HR3 := Lib.hid hr3; have HM3 := Lib.hid (HM2.out.trans hm3); clear hr3 hm3)
    | (go_at_call 35; refine (HFX.out _).mono ?_; rintro r w4 ⟨b1, b2, rfl, hl4, _, _, hb1, _, hbe4⟩; have HL4 := Lib.hid hl4; have HB1 := Lib.hid hb1; have HBE4 := Lib.hid hbe4; clear hl4 hb1 hbe4)
    | (go_at_call 36; refine (HCD.out _ _ HL4.out).mono ?_; rintro r w5 ⟨rfl, hc5, hbe5⟩; have HC5 := Lib.hid hc5; have HBE5 := Lib.hid hbe5; clear hc5 hbe5))
  obtain ⟨bc, hbc⟩ : ∃ bc, w4.heap.size = bc := ⟨_, rfl⟩
  rw [hbc] at HC5 ⊢
  obtain ⟨g, hg⟩ : ∃ g, w.heap.size = g := ⟨_, rfl⟩
  have hb1 := HB1.out
  have h14 := HL4.out.lt
  have hr3 := HR3.out
  have hg3 := hr3.lt
  have hr5 : RRow w5 w.heap.size w.heap.size u3 [1, 1, 0] := (hr3.more HBE4.out).more HBE5.out
  have hbw : Below w.heap.size w w5 := (((Below.refl w.heap.size w).alloc (Nat.le_refl _) _).trans (HM3.out.below HRR0.out (by simp))).trans ((HBE4.out.mono (by omega)).trans (HBE5.out.mono (by omega)))
  have h15 : IRow w5 b1 fixLs := HL4.out.below HBE5.out h14
  have hrk : RK w5 (fun i => i < w.heap.size ∨ i = b1 ∨ i = bc) w.heap.size w.heap.size u3 [1, 1, 0] := by
    refine ⟨hr5, by omega, fun b hb => ?_, fun i hi => ?_⟩
    · have hbl := hr3.row.lt b hb
      have hbg : w.heap.size ≤ b := by
        rcases hr3.row.own.2 with ⟨rfl, _⟩ | ⟨b', cap, cur, rfl, hb', _⟩
        · cases hb
        · injection hb with hb; dsimp only at hb; omega
      omega
    · have := hr5.lt
      have := HC5.out.lt
      rcases hi with hi | rfl | rfl
      · omega
      · exact h15.lt
      · exact HC5.out.lt
  obtain ⟨ts, hts⟩ : ∃ ts : Nat → Prop, (fun i => i < w.heap.size ∨ i = b1 ∨ i = bc) = ts := ⟨_, rfl⟩
  rw [hts] at hrk
  have ht1 : ts b1 := by rw [← hts]; exact .inr (.inl rfl)
  have ht2 : ts bc := by rw [← hts]; exact .inr (.inr rfl)
  have htB : ∀ i, i < w.heap.size → ts i := fun i hi => by rw [← hts]; exact .inl hi
  have HRK := Lib.hid hrk
  have HBW := Lib.hid hbw
  have HI1 := Lib.hid h15
  have HI2 := Lib.hid HC5.out
  have HT1 := Lib.hid ht1
  have HT2 := Lib.hid ht2
  have HTB := Lib.hid htB
  obtain ⟨FB, hFB⟩ : ∃ FB, [1, 1, 0] ++ fixR zs n 0 = FB := ⟨_, rfl⟩
  have HFBL : Hid (FB.length ≤ 9000003) := Lib.hid (by
    rw [← hFB, List.length_append]
    have := fixR_len zs HB.out.rng n 0
    have h2 := HLEN.out
    simp only [List.length_cons, List.length_nil]
    omega)
  have HFB := Lib.hid hFB
  clear hbc hg hb1 h14 hr3 hg3 hr5 hbw h15 hrk hts ht1 ht2 htB hFB HP1 HP2 HFX HCD HRR0 HM2 HM3 HR2 HR3 HS2 HBE4 HBE5 HL4 HC5 HB1
  go_wp2_with fail
  go_loopw [7, 8, 9, 10, 11, 12, 13, 14] (fun av s8 s9 s10 s11 s12 s13 s14 wr => ∃ (a f : Nat) (u : Value) (M : List Int), a ≤ n ∧ av = .int .i64 a ∧ Hid (n ≤ a + f ∧ M ++ fixR zs f a = FB) ∧ Hid (RK wr ts w.heap.size w.heap.size u M) ∧ Hid (Keeps ts w5 wr)) (fun av _ _ _ _ _ _ _ _ => n - (intOf av).toNat)
  case atStart => exact ⟨0, n, u3, _, Nat.zero_le _, rfl, Lib.hid ⟨by omega, HFB.out⟩, HRK, Lib.hid (Keeps.refl _ _)⟩
  case round =>
    obtain ⟨a, f, u, M, ha, rfl, HE, HR, HK⟩ := hrel
    by_cases hlt : a < n
    · have hf := HE.out
      obtain ⟨f, rfl⟩ : ∃ j, f = j + 1 := ⟨f - 1, by omega⟩
      rw [fixR_in zs f a (by rw [HLEN.out]; exact hlt)] at hf
      have HF := Lib.hid hf
      have HBY := Lib.hid (fun W (hW : Keeps ts w5 W) => (HB.out.below HBW.out (Nat.le_refl _)).keeps hW HTB.out)
      have HI1W := Lib.hid (fun W (hW : Keeps ts w5 W) => HI1.out.keeps hW HT1.out)
      have HI2W := Lib.hid (fun W (hW : Keeps ts w5 W) => HI2.out.keeps hW HT2.out)
      have HSZ := Lib.hid (fun W (hW : Keeps ts w5 W) => Nat.le_trans HBW.out.size hW.size)
      clear hf
      go_upto_region 9 with fail
      go_wp2_with fail
      go_loopw [8, 9, 10, 11] (fun nv bv kv s11 wx => ∃ (kk p q : Nat), kk ≤ min 64 a ∧ kv = .int .i64 ((kk : Int) + 1) ∧ nv = .int .i64 p ∧ bv = .int .i64 q ∧ Hid (bestN zs a kk = (p, q)) ∧ Hid (RK wx ts w.heap.size w.heap.size u M) ∧ Hid (Keeps ts w5 wx)) (fun _ _ kv _ _ => 70 - (intOf kv).toNat)
      case atStart => exact ⟨0, 0, 0, Nat.zero_le _, rfl, rfl, rfl, Lib.hid rfl, HR, HK⟩
      case round =>
        obtain ⟨kk, p, q, hk, rfl, rfl, rfl, HN, HR2, HK2⟩ := hrel
        have hwx := HSZ.out _ HK2.out
        by_cases hlk : kk < min 64 a
        · obtain ⟨x, hx⟩ : ∃ x, likeS zs a (kk + 1) = x := ⟨_, rfl⟩
          have hal := alikeC A n c w.heap.size a (kk + 1) zs wr (HBY.out _ HK2.out) hwx hn ha (by omega) x hx
          rw [show ((kk + 1 : Nat) : Int) = (kk : Int) + 1 by omega] at hal
          have HAL := Lib.hid hal
          have hx258 : x ≤ 258 := by rw [← hx]; exact likeS_bd _ _ _
          have hp258 : p ≤ 258 := by
            have := (bestN_bd zs a (by rw [HLEN.out]; omega) kk).1
            rw [HN.out] at this
            exact this
          have HX := Lib.hid hx
          have g1 : (kk : Int) + 1 ≤ 64 := by omega
          have g2 : (kk : Int) + 1 ≤ a := by omega
          clear hal hx hwx
          by_cases hpx : p < x
          · have HNN : Hid (bestN zs a (kk + 1) = (x, kk + 1)) := Lib.hid (by rw [bestN, HN.out, HX.out]; dsimp only; rw [if_pos hpx])
            have g3 : (p : Int) < x := by omega
            clear hpx
            go_wp2_with (go_at_call 37; refine HAL.out.mono ?_; rintro r wy ⟨rfl, hby⟩; have HRY := Lib.hid (HR2.out.more hby).1; have HKY := Lib.hid (HK2.out.trans (HR2.out.more hby).2); clear hby)
            go_roundw
            case rel => exact ⟨kk + 1, x, kk + 1, by omega, by go_num, rfl, by go_num, HNN, HRY, HKY⟩
            case measure => simp [intOf]; omega
          · have HNN : Hid (bestN zs a (kk + 1) = (p, q)) := Lib.hid (by rw [bestN, HN.out, HX.out]; dsimp only; rw [if_neg hpx])
            have g3 : decide ((p : Int) < x) = false := decide_eq_false (by omega)
            have g4 : decide (p < x) = false := decide_eq_false hpx
            clear hpx
            go_wp2_with (go_at_call 37; refine HAL.out.mono ?_; rintro r wy ⟨rfl, hby⟩; have HRY := Lib.hid (HR2.out.more hby).1; have HKY := Lib.hid (HK2.out.trans (HR2.out.more hby).2); clear hby)
            go_roundw
            case rel => exact ⟨kk + 1, p, q, by omega, by go_num, rfl, rfl, HNN, HRY, HKY⟩
            case measure => simp [intOf]; omega
        · obtain rfl : kk = min 64 a := by omega
          have HBS : Hid (bestS zs a = (p, q)) := HN
          clear HN hlk hk
          obtain ⟨kk, hkk⟩ : ∃ kk, min 64 a = kk := ⟨_, rfl⟩
          rw [hkk]
          have hexit : (kk = 64) ∨ (kk = a ∧ kk < 64) := by omega
          have hML : M.length ≤ 9000003 := by
            have h1 := congrArg List.length HE.out.2
            have h2 := HFBL.out
            rw [List.length_append] at h1
            omega
          have hbd := bestN_bd zs a (by rw [HLEN.out]; omega) (min 64 a)
          rw [show bestN zs a (min 64 a) = (p, q) from HBS.out, HLEN.out] at hbd
          dsimp only at hbd
          have HBD := Lib.hid hbd
          have HKK := Lib.hid hkk
          have hf := HF.out
          rw [HBS.out] at hf
          dsimp only at hf
          clear hbd hwx HF HE
          by_cases h3 : p < 3
          · rw [if_pos h3] at hf
            have hby := HBY.out wr HK2.out
            have hgz := hby.getD a
            obtain ⟨b, o, rfl, _, hc⟩ := hby.cell (by omega)
            have ca := hc a hlt
            obtain ⟨z, hz⟩ : ∃ z : Nat, zs.getD a 0 = z := ⟨(zs.getD a 0).toNat, by omega⟩
            rw [hz] at ca hgz hf
            rw [show ((z : Int)).toNat = z from rfl] at hf
            have cx := (HI2W.out wr HK2.out).cell z (by rw [codesS, codesN_len]; show z < (fixLN 288).length; rw [fixLN_len]; omega)
            have cy := (HI1W.out wr HK2.out).cell z (by show z < (fixLN 288).length; rw [fixLN_len]; omega)
            obtain ⟨X, hX⟩ : ∃ X, (codesS fixLs).getD z 0 = X := ⟨_, rfl⟩
            obtain ⟨Y, hY⟩ : ∃ Y, fixLs.getD z 0 = Y := ⟨_, rfl⟩
            rw [hX] at cx
            rw [hY] at cy
            have HT := Lib.hid (turnSym w.heap.size w.heap.size u M z X Y (wr.drewN 1) (HR2.out.rr.drewN 1) (HSZ.out wr HK2.out) (by omega) (by omega) hX hY)
            have hz8 : (z : Int) < 288 := by omega
            have HF := Lib.hid hf
            clear hf hby hgz hc hz hX hY hkk hML
            rcases hexit with h | h
            case' inl =>
              have g1 : decide ((kk : Int) + 1 ≤ 64) = false := decide_eq_false (by omega)
              have g3 : (p : Int) < 3 := by omega
              clear h h3
              go_upto_region 16 with fail
            case' inr =>
              have g1 : (kk : Int) + 1 ≤ 64 := by omega
              have g2 : decide ((kk : Int) + 1 ≤ a) = false := decide_eq_false (by omega)
              have g4 : decide (kk + 1 ≤ a) = false := decide_eq_false (by omega)
              have g5 : decide (kk < a) = false := decide_eq_false (by omega)
              have g3 : (p : Int) < 3 := by omega
              clear h h3
              go_upto_region 16 with fail
            all_goals
              go_still_tail 15, (by kernel_rfl)
              change wpList _ _ _ _ _ (wr.drewN 1)
              go_wp2_with (go_at_call 38; refine HT.out.mono ?_; rintro r w7 ⟨rfl, u7, hr7, hm7⟩; have HR7 := Lib.hid ((HR2.out.drewN 1).put hm7 hr7).1; have HK7 := Lib.hid ((HK2.out.drewN 1).trans ((HR2.out.drewN 1).put hm7 hr7).2); clear hr7 hm7)
              go_roundw
              case rel => exact ⟨a + 1, f, u7, _, by omega, by go_num, Lib.hid ⟨by have := HF.out.1; omega, by rw [← HF.out.2, List.append_assoc]⟩, HR7, HK7⟩
              case measure => simp [intOf]; omega
          · rw [if_neg h3] at hf
            have hq := HBD.out.2.2.2 (by omega)
            have hbp := HBD.out
            have hlb := lenK_bd ⟨p, by omega⟩ (by dsimp only; omega)
            have hdb := disK_bd ⟨q, by omega⟩ (by dsimp only; omega)
            dsimp only at hlb hdb
            rw [lenBits, disBits] at hf
            obtain ⟨s, x, e, hse⟩ : ∃ s x e, lenK p = (s, x, e) := ⟨_, _, _, rfl⟩
            obtain ⟨s', x', e', hse'⟩ : ∃ s x e, disK q = (s, x, e) := ⟨_, _, _, rfl⟩
            rw [hse] at hf hlb
            rw [hse'] at hf hdb
            dsimp only at hf hlb hdb
            obtain ⟨S, rfl⟩ : ∃ S : Nat, s = S := ⟨s.toNat, by omega⟩
            obtain ⟨E, rfl⟩ : ∃ E : Nat, e = E := ⟨e.toNat, by omega⟩
            obtain ⟨S', rfl⟩ : ∃ S : Nat, s' = S := ⟨s'.toNat, by omega⟩
            obtain ⟨E', rfl⟩ : ∃ E : Nat, e' = E := ⟨e'.toNat, by omega⟩
            simp only [Int.toNat_natCast] at hf
            have HLC := Lib.hid (fun W => lengthCodeC p W (by omega) S x E hse)
            have HDC := Lib.hid (fun W => distanceCodeC q W (by omega) S' x' E' hse')
            obtain ⟨X, hX⟩ : ∃ X, (codesS fixLs).getD S 0 = X := ⟨_, rfl⟩
            obtain ⟨Y, hY⟩ : ∃ Y, fixLs.getD S 0 = Y := ⟨_, rfl⟩
            have HCX : Hid (∀ W, Keeps ts w5 W → W.cell? ⟨bc, S, none⟩ = some (.int .i64 X)) := Lib.hid fun W hW => by
              have := (HI2W.out W hW).cell S (by rw [codesS, codesN_len]; show S < (fixLN 288).length; rw [fixLN_len]; omega)
              rw [hX] at this; exact this
            have HCY : Hid (∀ W, Keeps ts w5 W → W.cell? ⟨b1, S, none⟩ = some (.int .i64 Y)) := Lib.hid fun W hW => by
              have := (HI1W.out W hW).cell S (by show S < (fixLN 288).length; rw [fixLN_len]; omega)
              rw [hY] at this; exact this
            have hlow1 := lowb_len x E
            have hlow2 := lowb_len x' E'
            have hsl := symB_len S (by omega)
            have HT1 := Lib.hid (fun W (hR : RRow W w.heap.size w.heap.size u M) (hs : w.heap.size ≤ W.heap.size) => turnSym w.heap.size w.heap.size u M S X Y W hR hs (by omega) (by omega) hX hY)
            have HT2 : Hid (∀ W u M', M' = M ++ symB S → RRow W w.heap.size w.heap.size u M' → w.heap.size ≤ W.heap.size → Calls Try.prog 17 #[.pointer (some ⟨w.heap.size, 0, none⟩), .int .i64 x, .int .i64 E] W fun r w' => r = .returned (.tuple #[]) ∧ ∃ v', RRow w' w.heap.size w.heap.size v' (M' ++ lowb x E) ∧ RMov W w' w.heap.size u v') := Lib.hid fun W u M' hM' hR hs => by
              have h := rputC w.heap.size w.heap.size u M' x E W hR hs (by rw [hM', List.length_append]; omega) (by omega) (by omega)
              rw [putB_in M' x E (by omega)] at h
              exact h
            have HT3 : Hid (∀ W u M', M' = M ++ symB S ++ lowb x E → RRow W w.heap.size w.heap.size u M' → w.heap.size ≤ W.heap.size → Calls Try.prog 38 #[.pointer (some ⟨w.heap.size, 0, none⟩), .int .i64 S', .int .i64 5] W fun r w' => r = .returned (.tuple #[]) ∧ ∃ v', RRow w' w.heap.size w.heap.size v' (M' ++ highb S' 5) ∧ RMov W w' w.heap.size u v') := Lib.hid fun W u M' hM' hR hs => rturnedC w.heap.size w.heap.size u M' S' 5 W hR hs (by rw [hM', List.length_append, List.length_append]; omega) (by omega) (by omega)
            have HT4 : Hid (∀ W u M', M' = M ++ symB S ++ lowb x E ++ highb S' 5 → RRow W w.heap.size w.heap.size u M' → w.heap.size ≤ W.heap.size → Calls Try.prog 17 #[.pointer (some ⟨w.heap.size, 0, none⟩), .int .i64 x', .int .i64 E'] W fun r w' => r = .returned (.tuple #[]) ∧ ∃ v', RRow w' w.heap.size w.heap.size v' (M' ++ lowb x' E') ∧ RMov W w' w.heap.size u v') := Lib.hid fun W u M' hM' hR hs => by
              have h := rputC w.heap.size w.heap.size u M' x' E' W hR hs (by rw [hM', List.length_append, List.length_append, List.length_append, highb_len]; omega) (by omega) (by omega)
              rw [putB_in M' x' E' (by omega)] at h
              exact h
            have hS8 : (S : Int) < 288 := by omega
            have HF := Lib.hid hf
            have hap : a + p ≤ n := hbp.2.2.1
            have hp3 : 3 ≤ p := by omega
            clear hf hq hbp hlb hdb hse hse' hX hY hkk hML hlow1 hlow2 hsl
            rcases hexit with h | h
            case' inl =>
              have g1 : decide ((kk : Int) + 1 ≤ 64) = false := decide_eq_false (by omega)
              have g3 : decide ((p : Int) < 3) = false := decide_eq_false (by omega)
              clear h h3
              go_upto_region 19 with (go_at_call 39; refine (HLC.out _).mono ?_; rintro r w6 ⟨rfl, hb6⟩; have HR6 := Lib.hid (HR2.out.more hb6).1; have HK6 := Lib.hid (HK2.out.trans (HR2.out.more hb6).2); clear hb6)
            case' inr =>
              have g1 : (kk : Int) + 1 ≤ 64 := by omega
              have g2 : decide ((kk : Int) + 1 ≤ a) = false := decide_eq_false (by omega)
              have g4 : decide (kk + 1 ≤ a) = false := decide_eq_false (by omega)
              have g5 : decide (kk < a) = false := decide_eq_false (by omega)
              have g3 : decide ((p : Int) < 3) = false := decide_eq_false (by omega)
              clear h h3
              go_upto_region 19 with (go_at_call 39; refine (HLC.out _).mono ?_; rintro r w6 ⟨rfl, hb6⟩; have HR6 := Lib.hid (HR2.out.more hb6).1; have HK6 := Lib.hid (HK2.out.trans (HR2.out.more hb6).2); clear hb6)
            all_goals
              have cx := HCX.out w6 HK6.out
              have cy := HCY.out w6 HK6.out
              have HS6 : Hid (w.heap.size ≤ (w6.drewN 1).heap.size) := Lib.hid (HSZ.out w6 HK6.out)
              go_still_tail 9, (by kernel_rfl)
              change wpList _ _ _ _ _ (w6.drewN 1)
              clear cx cy
              go_upto_region 24 with (first
                | (go_at_call 38; with_reducible refine (HT1.out _ (HR6.out.rr.drewN 1) HS6.out).mono ?_; rintro r w7 ⟨rfl, u7, hr7, hm7⟩; have HR7 := Lib.hid ((HR6.out.drewN 1).put hm7 hr7).1; have HK7 := Lib.hid ((HK6.out.drewN 1).trans ((HR6.out.drewN 1).put hm7 hr7).2); clear hr7 hm7)
                | (go_at_call 17; with_reducible refine (HT2.out _ _ _ rfl HR7.out.rr (HSZ.out w7 HK7.out)).mono ?_; rintro r w8 ⟨rfl, u8, hr8, hm8⟩; have HR8 := Lib.hid (HR7.out.put hm8 hr8).1; have HK8 := Lib.hid (HK7.out.trans (HR7.out.put hm8 hr8).2); clear hr8 hm8)
                | (go_at_call 40; refine (HDC.out _).mono ?_; rintro r w9 ⟨rfl, hb9⟩; have HR9 := Lib.hid (HR8.out.more hb9).1; have HK9 := Lib.hid (HK8.out.trans (HR8.out.more hb9).2); clear hb9)
                | (go_at_call 38; with_reducible refine (HT3.out _ _ _ rfl HR9.out.rr (HSZ.out w9 HK9.out)).mono ?_; rintro r w10 ⟨rfl, u10, hr10, hm10⟩; have HR10 := Lib.hid (HR9.out.put hm10 hr10).1; have HK10 := Lib.hid (HK9.out.trans (HR9.out.put hm10 hr10).2); clear hr10 hm10)
                | (go_at_call 17; with_reducible refine (HT4.out _ _ _ rfl HR10.out.rr (HSZ.out w10 HK10.out)).mono ?_; rintro r w11 ⟨rfl, u11, hr11, hm11⟩; have HR11 := Lib.hid (HR10.out.put hm11 hr11).1; have HK11 := Lib.hid (HK10.out.trans (HR10.out.put hm11 hr11).2); clear hr11 hm11))
              go_wp2_with fail
              go_roundw
              case rel => exact ⟨a + p, f, u11, _, hap, by go_num, Lib.hid ⟨by have := HF.out.1; omega, by rw [← HF.out.2]; simp only [List.append_assoc]⟩, HR11, HK11⟩
              case measure => simp [intOf]; omega
    · have hf := HE.out
      rw [fixR_out zs f a (by rw [HLEN.out]; omega), List.append_nil] at hf
      obtain ⟨_, rfl⟩ := hf
      have cx := (HI2.out.keeps HK.out HT2.out).cell 256 (by rw [codesS, codesN_len]; show 256 < (fixLN 288).length; rw [fixLN_len]; omega)
      have cy := (HI1.out.keeps HK.out HT1.out).cell 256 (by show 256 < (fixLN 288).length; rw [fixLN_len]; omega)
      obtain ⟨X, hX⟩ : ∃ X, (codesS fixLs).getD 256 0 = X := ⟨_, rfl⟩
      obtain ⟨Y, hY⟩ : ∃ Y, fixLs.getD 256 0 = Y := ⟨_, rfl⟩
      rw [hX] at cx
      rw [hY] at cy
      have hsz := Nat.le_trans HBW.out.size HK.out.size
      have hsl := symB_len 256 (by omega)
      have HT := Lib.hid (turnSym w.heap.size w.heap.size u M 256 X Y (wr.drewN 1) (HR.out.rr.drewN 1) hsz (by have := HFBL.out; omega) (by omega) hX hY)
      have HEND : Hid (M ++ symB 256 = fixBits zs) := Lib.hid (by rw [fixBits, HLEN.out, ← List.append_assoc, HFB.out])
      have HBYT := Lib.hid (fun W v (hR : RRow W w.heap.size w.heap.size v (M ++ symB 256)) => rbytesC w.heap.size w.heap.size v (M ++ symB 256) W hR (by have := HFBL.out; rw [List.length_append]; omega))
      have HSZ := Lib.hid hsz
      clear hX hY hsz hsl
      go_upto_region 25 with fail
      go_still_tail 7, (by kernel_rfl)
      change wpList _ _ _ _ _ (wr.drewN 1)
      clear cx cy
      go_wp2_with (first
        | (go_at_call 38; refine HT.out.mono ?_; rintro r w7 ⟨rfl, u7, hr7, hm7⟩; have HR7 := Lib.hid ((HR.out.drewN 1).put hm7 hr7).1; have HK7 := Lib.hid ((HK.out.drewN 1).trans ((HR.out.drewN 1).put hm7 hr7).2); clear hr7 hm7)
        | (go_at_call 19; refine (HBYT.out _ _ HR7.out.rr).mono ?_; rintro r w8 ⟨v8, rfl, hm8, hb8⟩; have HM8 := Lib.hid hm8; have HB8 := Lib.hid hb8; clear hm8 hb8))
      go_ret
      have hm := HM8.out
      rw [HEND.out] at hm
      have hk : Below w.heap.size w w7 := HBW.out.trans ⟨HK7.out.os, HK7.out.tape, HK7.out.output, HK7.out.size, fun i hi => HK7.out.block i (HTB.out i hi)⟩
      exact ⟨_, rfl, hm.base hk.size, hk.trans (HB8.out.mono hk.size)⟩
def big4 (v : Int) : List Int := [v / 16777216 % 256, v / 65536 % 256, v / 256 % 256, v % 256]
theorem big4_rng (v : Int) : ∀ z ∈ big4 v, 0 ≤ z ∧ z < 256 := fun z hz => by
  simp [big4] at hz
  omega
/-- What is written between the wrap's head and its sum. -/
def bodyS (zs : List Int) : List Int := if (joinZ [zs]).length ≤ (fixedS zs).length then joinZ [zs] else fixedS zs
def zlibS (zs : List Int) : List Int := [120, 1] ++ bodyS zs ++ big4 (moreV 1 zs)
theorem join1_len (zs : List Int) : (joinZ [zs]).length = zs.length + 5 := by simp [joinZ]
theorem body_len (zs : List Int) : (bodyS zs).length ≤ zs.length + 5 := by
  unfold bodyS
  have := join1_len zs
  split <;> omega
theorem wrap_u8_mod (z : Int) : IntKind.u8.wrap z = z % 256 := by rw [IntKind.wrap_u8]
set_option maxHeartbeats 2000000 in
theorem refBig4 (v : Int) (w : World) (v0 : 0 ≤ v) (v1 : v ≤ 4294967295) :
    Calls Try.prog 41 #[.int .i64 v, .int .i64 4] w fun r w' => ∃ u, r = .returned u ∧ Mine w' w.heap.size u 4 (big4 v) ∧ Below w.heap.size w w' := by
  go_enter Try.func41, Try.ntmps41
  go_wp2_with fail
  go_loopw [5, 6] (fun bv iv wr => ∃ (k : Nat), k ≤ 4 ∧ iv = .int .i64 (3 - (k : Int)) ∧ Hid (Mine wr w.heap.size bv k ((big4 v).take k)) ∧ Hid (Below w.heap.size w wr)) (fun _ iv _ => (intOf iv + 1).toNat)
  case atStart => exact ⟨0, Nat.zero_le _, rfl, Lib.hid (Mine.nil _ _), Lib.hid (Below.refl _ _)⟩
  case round =>
    obtain ⟨k, hk, rfl, HM, HB⟩ := hrel
    by_cases hlt : k < 4
    · obtain ⟨z, hz⟩ : ∃ z, (big4 v).getD k 0 = z := ⟨_, rfl⟩
      have hzr : 0 ≤ z ∧ z < 256 := by
        rw [← hz, getD_eq _ _ (show k < (big4 v).length from hlt)]
        exact big4_rng v _ (List.getElem_mem _)
      have HT : Hid ((big4 v).take (k + 1) = (big4 v).take k ++ [z]) := Lib.hid (by rw [take_snocZ _ _ (show k < (big4 v).length from hlt), hz])
      have hA := fun Z (e : Z = z) => (HM.out.kept ((Below.refl _ _).alloc (Nat.le_refl _) (.cells #[.int .u8 Z] 5))).append (byt_lit0 wr Z (e ▸ hzr)) 29 (by omega) (Nat.le_trans HB.out.size (by simp))
      obtain ⟨A6, c6, hv6, _⟩ := HM.out.byt
      subst hv6
      have hpow : v / 2 ^ (8 * (3 - k)) % 256 = z := by
        rw [← hz]
        have h4 : k = 0 ∨ k = 1 ∨ k = 2 ∨ k = 3 := by omega
        rcases h4 with rfl | rfl | rfl | rfl <;> simp [big4]
      obtain ⟨j, hj⟩ : ∃ j, 3 - k = j := ⟨_, rfl⟩
      rw [hj] at hpow
      obtain ⟨J, hJ⟩ : ∃ J, 8 * j = J := ⟨_, rfl⟩
      rw [hJ] at hpow
      have ej : 3 - (k : Int) = j := by omega
      rw [ej]
      have eJ : 8 * (j : Int) = J := by omega
      have hJ24 : (J : Int) ≤ 24 := by omega
      have hJ64 : min J 64 = J := by omega
      have hj3 : (j : Int) ≤ 3 := by omega
      have hwr : IntKind.u8.wrap (v / 2 ^ J) = z := by rw [wrap_u8_mod]; exact hpow
      have HJ := Lib.hid ej
      have HAP := Lib.hid (hA z rfl)
      clear hz hA hj hJ ej
      go_wp2_with (at_builtin; obtain ⟨v6, w6, hrun, hm6, hb6⟩ := HAP.out; obtain ⟨A7, c7, rfl, _⟩ := hm6.byt; refine Lib.wpList_append_run_sl _ rfl (.tmp 13) (.tmp 20) 29 rfl _ _ rfl rfl hrun ?_; clear hrun; have HM6 := Lib.hid hm6; have HB6 := Lib.hid ((HB.out.alloc HB.out.size _).trans hb6); clear hm6 hb6)
      go_roundw
      case rel => exact ⟨k + 1, by omega, by have := HJ.out; go_num, Lib.hid (by rw [HT.out]; exact HM6.out), HB6⟩
      case measure => have := HJ.out; simp [intOf]
    · obtain rfl : k = 4 := by omega
      have hm := HM.out
      rw [List.take_of_length_le (show (big4 v).length ≤ 4 from Nat.le_refl _)] at hm
      have HM2 := Lib.hid hm
      clear hm
      go_wp2_with fail
      go_ret
      exact ⟨_, rfl, HM2.out, HB.out⟩
/-- A literal is a row of one's own. -/
theorem mine_lit (w : World) (base : Nat) (hB : base ≤ w.heap.size) (zs : List Int) (hr : ∀ z ∈ zs, 0 ≤ z ∧ z < 256) (n : Nat) (hn : zs.length = n) (hn2 : n ≤ 1000000) (C : Array Value) (hC : C = (zs.map (Value.int .u8)).toArray) :
    Mine (w.alloc (.cells C 5)) base (.slice (some ⟨w.heap.size, 0, none⟩) n n) n zs := by
  refine ⟨⟨by simp [hn], .inr ⟨w.heap.size, n, C, rfl, hB, heap_alloc_new w _, Nat.le_refl _, by unfold maxLen; omega, by rw [hC]; simp [hn], ?_⟩⟩, hr⟩
  rw [hC, List.take_of_length_le (by simp [hn])]
theorem Mine.cast {w : World} {base p : Nat} {v : Value} {zs : List Int} (h : Mine w base v p zs) : Mine w base v zs.length zs := by rw [h.len]; exact h
set_option maxHeartbeats 1000000 in
theorem refZlib (A : Option Addr) (n c : Nat) (zs : List Int) (w : World) (hb : Byt w w.heap.size A n c zs) (hn : n ≤ 65535) :
    Calls Try.prog 22 #[.slice A n c] w fun r w' => ∃ v, r = .returned v ∧ Mine w' w.heap.size v (zlibS zs).length (zlibS zs) ∧ Below w.heap.size w w' := by
  have HBY := Lib.hid (fun W (hW : Below w.heap.size w W) => (hb.below hW (Nat.le_refl _)).more hW.size)
  have HFX := Lib.hid (fun W (hW : Byt W W.heap.size A n c zs) => refFixed A n c zs W hW (by omega))
  have HST := Lib.hid (fun W (hW : Byt W W.heap.size A n c zs) => refStored A n c zs W hW hn)
  have HAD := Lib.hid (fun W (hW : Byt W W.heap.size A n c zs) => refAdler A n c _ zs W hW (by omega))
  have hmv := moreV_bd 1 zs
  have hlen := hb.len
  have hj1 := join1_len zs
  rw [hlen] at hj1
  have hfl : (fixedS zs).length ≤ 9 * n + 20 := by
    have h1 := fixR_len zs hb.rng zs.length 0
    have h2 := symB_len 256 (by omega)
    unfold fixedS
    rw [pack_len]
    unfold fixBits
    simp only [List.length_append, List.length_cons, List.length_nil]
    omega
  unfold zlibS bodyS
  obtain ⟨V, hV⟩ : ∃ V, moreV 1 zs = V := ⟨_, rfl⟩
  rw [hV] at HAD hmv ⊢
  have HBG := Lib.hid (fun W => refBig4 V W hmv.1 hmv.2)
  obtain ⟨FX, hFX⟩ : ∃ FX, fixedS zs = FX := ⟨_, rfl⟩
  obtain ⟨ST, hST⟩ : ∃ ST, joinZ [zs] = ST := ⟨_, rfl⟩
  rw [hFX] at HFX hfl ⊢
  rw [hST] at HST hj1 ⊢
  have hwV : IntKind.i64.wrap V = V := IntWalk.i64_in _ (by omega)
  obtain ⟨p, hp⟩ : ∃ p, FX.length = p := ⟨_, rfl⟩
  obtain ⟨q, hq⟩ : ∃ q, ST.length = q := ⟨_, rfl⟩
  rw [hp] at HFX hfl ⊢
  rw [hq] at HST hj1 ⊢
  have HP := Lib.hid hp
  have HQ := Lib.hid hq
  have HB0 := Lib.hid hb
  have HLB := Lib.hid (fun W => byt_lit W (0, 0) [120, 1] (fun z hz => by simp at hz; omega) 2 rfl _ rfl)
  have hq5 : q ≤ n + 5 := by omega
  clear hb hV hFX hST hlen hp hq hj1
  by_cases hle : q ≤ p
  · rw [if_pos hle]
    go_enter Try.func22, Try.ntmps22
    go_upto_region 5 with (first
      | (go_at_call 21; refine (HFX.out _ HB0.out).mono ?_; rintro r w1 ⟨v1, rfl, hm1, hb1⟩; obtain ⟨A1, c1, rfl, _⟩ := hm1.byt; have HM1 := Lib.hid hm1; have HB1 := Lib.hid hb1; clear hm1 hb1)
      | (go_at_call 20; refine (HST.out _ (HBY.out _ HB1.out)).mono ?_; rintro r w2 ⟨v2, rfl, hm2, hb2⟩; obtain ⟨A2, c2, rfl, _⟩ := hm2.byt; have HM2 := Lib.hid hm2; have HB2 := Lib.hid hb2; clear hm2 hb2))
    have hs1 := HB1.out.size
    have hs2 := HB2.out.size
    have hbw : Below w.heap.size w w2 := HB1.out.trans (HB2.out.mono hs1)
    have hx : Mine w2 w.heap.size (.slice A2 q c2) q ST := HM2.out.base hs1
    obtain ⟨Ax, cx, ex, hby⟩ := hx.byt
    injection ex with e1 e2 e3
    subst e1 e3
    have HA4 := Lib.hid ((mine_lit w2 w.heap.size (Nat.le_trans hs1 hs2) [120, 1] (fun z hz => by simp at hz; omega) 2 rfl (by omega) #[.int .u8 120, .int .u8 1] rfl).appendT (hby.below ((Below.refl _ _).alloc (Nat.le_refl _) (.cells #[.int .u8 120, .int .u8 1] 5)) (Nat.le_refl _)) 29 (by omega) (by simp; omega))
    have HBW := Lib.hid hbw
    clear hs1 hs2 hbw hx hby e2
    go_wp2_with (first
      | (at_builtin; obtain ⟨v4, w4, hrun, hm4, hb4, _, _, _⟩ := HA4.out; obtain ⟨A4, c4, rfl, _⟩ := hm4.byt; refine Lib.wpList_append_run_sl _ rfl (.tmp 16) (.tmp 17) 29 rfl _ _ rfl rfl hrun ?_; clear hrun HA4; have HM4 := Lib.hid hm4; have HB4 := Lib.hid ((HBW.out.alloc HBW.out.size _).trans hb4); clear hm4 hb4)
      | (go_at_call 42; refine (HAD.out _ (HBY.out _ HB4.out)).mono ?_; rintro r w5 ⟨rfl, rfl⟩)
      | (go_at_call 41; refine (HBG.out _).mono ?_; rintro r w6 ⟨v6, rfl, hm6, hb6⟩; obtain ⟨A6, c6, rfl, hby6⟩ := hm6.byt; have HA7 := Lib.hid ((HM4.out.kept hb6).appendT hby6 29 (by omega) (Nat.le_trans HB4.out.size hb6.size)); have HB6 := Lib.hid (HB4.out.trans (hb6.mono HB4.out.size)); clear hm6 hb6 hby6)
      | (at_builtin; obtain ⟨v7, w7, hrun, hm7, hb7, _, _, _⟩ := HA7.out; obtain ⟨A7, c7, rfl, _⟩ := hm7.byt; refine Lib.wpList_append_run_sl _ rfl (.tmp 19) (.tmp 23) 29 rfl _ _ rfl rfl hrun ?_; clear hrun HA7; have HM7 := Lib.hid hm7; have HB7 := Lib.hid (HB6.out.trans hb7); clear hm7 hb7))
    go_ret
    exact ⟨_, rfl, HM7.out.cast, HB7.out⟩
  · rw [if_neg hle]
    go_enter Try.func22, Try.ntmps22
    go_upto_region 5 with (first
      | (go_at_call 21; refine (HFX.out _ HB0.out).mono ?_; rintro r w1 ⟨v1, rfl, hm1, hb1⟩; obtain ⟨A1, c1, rfl, _⟩ := hm1.byt; have HM1 := Lib.hid hm1; have HB1 := Lib.hid hb1; clear hm1 hb1)
      | (go_at_call 20; refine (HST.out _ (HBY.out _ HB1.out)).mono ?_; rintro r w2 ⟨v2, rfl, hm2, hb2⟩; obtain ⟨A2, c2, rfl, _⟩ := hm2.byt; have HM2 := Lib.hid hm2; have HB2 := Lib.hid hb2; clear hm2 hb2))
    have hs1 := HB1.out.size
    have hs2 := HB2.out.size
    have hbw : Below w.heap.size w w2 := HB1.out.trans (HB2.out.mono hs1)
    have hx : Mine w2 w.heap.size (.slice A1 p c1) p FX := HM1.out.kept HB2.out
    obtain ⟨Ax, cx, ex, hby⟩ := hx.byt
    injection ex with e1 e2 e3
    subst e1 e3
    have HA4 := Lib.hid ((mine_lit w2 w.heap.size (Nat.le_trans hs1 hs2) [120, 1] (fun z hz => by simp at hz; omega) 2 rfl (by omega) #[.int .u8 120, .int .u8 1] rfl).appendT (hby.below ((Below.refl _ _).alloc (Nat.le_refl _) (.cells #[.int .u8 120, .int .u8 1] 5)) (Nat.le_refl _)) 29 (by omega) (by simp; omega))
    have HBW := Lib.hid hbw
    clear hs1 hs2 hbw hx hby e2
    go_wp2_with (first
      | (at_builtin; obtain ⟨v4, w4, hrun, hm4, hb4, _, _, _⟩ := HA4.out; obtain ⟨A4, c4, rfl, _⟩ := hm4.byt; refine Lib.wpList_append_run_sl _ rfl (.tmp 16) (.tmp 17) 29 rfl _ _ rfl rfl hrun ?_; clear hrun HA4; have HM4 := Lib.hid hm4; have HB4 := Lib.hid ((HBW.out.alloc HBW.out.size _).trans hb4); clear hm4 hb4)
      | (go_at_call 42; refine (HAD.out _ (HBY.out _ HB4.out)).mono ?_; rintro r w5 ⟨rfl, rfl⟩)
      | (go_at_call 41; refine (HBG.out _).mono ?_; rintro r w6 ⟨v6, rfl, hm6, hb6⟩; obtain ⟨A6, c6, rfl, hby6⟩ := hm6.byt; have HA7 := Lib.hid ((HM4.out.kept hb6).appendT hby6 29 (by omega) (Nat.le_trans HB4.out.size hb6.size)); have HB6 := Lib.hid (HB4.out.trans (hb6.mono HB4.out.size)); clear hm6 hb6 hby6)
      | (at_builtin; obtain ⟨v7, w7, hrun, hm7, hb7, _, _, _⟩ := HA7.out; obtain ⟨A7, c7, rfl, _⟩ := hm7.byt; refine Lib.wpList_append_run_sl _ rfl (.tmp 19) (.tmp 23) 29 rfl _ _ rfl rfl hrun ?_; clear hrun HA7; have HM7 := Lib.hid hm7; have HB7 := Lib.hid (HB6.out.trans hb7); clear hm7 hb7))
    go_ret
    exact ⟨_, rfl, HM7.out.cast, HB7.out⟩
end Go.Proofs.Ytginbilakdenmaa
