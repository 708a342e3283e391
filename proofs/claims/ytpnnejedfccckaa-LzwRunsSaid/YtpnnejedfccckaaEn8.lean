/- Chapter 8, the document's own LzwEncode. -/
import Derived.Test.YtpnnejedfccckaaSt8
import Derived.Test.YtpnnejedfccckaaPz8
import Derived.StillTailTactics
import Derived.Deep.Cut
import Derived.Deep.CutBlock
import Derived.Deep.LoopGhost
import Derived.Laws.Tables
namespace Go.Proofs.Ytpnnejedfccckaa
open Go.RowKit
set_option linter.unusedVariables false
set_option maxRecDepth 100000

theorem lzB_len (zs : List Int) : ∀ f a TE reads first, (lzB zs f a TE reads first).length ≤ 24 * f + 12
  | 0, a, TE, reads, first => by
    have := wdZ_bd reads
    rw [lzB, hiB_len]; omega
  | f + 1, a, TE, reads, first => by
    have h1 := wdZ_bd reads
    have h2 := wdZ_bd (lzN reads first)
    rw [lzB]
    split
    · rw [List.length_append, hiB_len]
      split
      · split
        · rw [List.length_append, hiB_len]
          have := lzB_len zs f (a + (lzBest zs a TE).2) [] 258 true
          omega
        · have := lzB_len zs f (a + (lzBest zs a TE).2) (TE ++ [(zs.drop a).take ((lzBest zs a TE).2 + 1)]) (lzN reads first) false
          omega
      · have := lzB_len zs f (a + (lzBest zs a TE).2) TE (lzN reads first) false
        omega
    · rw [hiB_len]; omega
theorem lzBits_len (zs : List Int) : (lzBits zs).length ≤ 24 * zs.length + 21 := by
  have := lzB_len zs zs.length 0 [] 258 true
  rw [lzBits, List.length_append, hiB_len]
  omega
/-- The texts of a table. -/
def txts (TE : List (List Int)) : List Value := TE.map fun t => .string (strOfNums t)
theorem txts_len (TE : List (List Int)) : (txts TE).length = TE.length := by simp [txts]
theorem txts_get (TE : List (List Int)) (k : Nat) (h : k < (txts TE).length) : (txts TE)[k]'h = .string (strOfNums (TE.getD k [])) := by
  have h2 : k < TE.length := by rw [← txts_len]; exact h
  simp [txts, List.getD, h2]
theorem lzM_step (zs : List Int) (a k c n : Nat) (TE : List (List Int)) (h : k < TE.length) : lzM zs a (TE.drop k) k (c, n) = lzM zs a (TE.drop (k + 1)) (k + 1) (if n < (TE.getD k []).length ∧ stL zs a (TE.getD k []) = true then (258 + k, (TE.getD k []).length) else (c, n)) := by
  rw [List.drop_eq_getElem_cons h, lzM]
  simp [List.getD, h]
theorem OwnV.cells {w : World} {base : Nat} {e : TypeId} {v : Value} {xs : List Value} (h : OwnV w base e v xs) : v = .slice none 0 0 ∧ xs = [] ∨ ∃ g c, v = .slice (some ⟨g, 0, none⟩) xs.length c ∧ g < w.heap.size ∧ base ≤ g ∧ ∀ i (hi : i < xs.length), w.cell? ⟨g, i, none⟩ = some (xs[i]'hi) := by
  rcases h.2 with ⟨rfl, h1⟩ | ⟨g, cap, cur, rfl, hb, hh, hn, hm, hs, ht⟩
  · exact .inl ⟨rfl, List.eq_nil_of_length_eq_zero h1⟩
  · refine .inr ⟨g, cap, rfl, (h.lt g rfl).1, hb, fun i hi => ?_⟩
    rw [cell_of_row w g i cur e (0, 0) hh]
    rw [Nat.mul_one] at ht
    have := congrArg (·[i]?) ht
    simp only [List.getElem?_take_of_lt hi, List.getElem?_eq_getElem hi] at this
    rw [← this]
    simp
/-- What is kept of the writer's state between two codes. -/
structure EnS (w0 w : World) (zs : List Int) (n a f : Nat) (TE : List (List Int)) (reads : Nat) (first : Bool) (bv tv : Value) (O : List Int) : Prop where
  out : O ++ lzB zs f a TE reads first = lzBits zs
  fuel : n ≤ a + f
  bits : Mine w w0.heap.size bv O.length O
  tab : OwnV w w0.heap.size 9 tv (txts TE)
  sep : ∀ b, bv.ownBlock = some b → tv.ownBlock ≠ some b
  few : 258 + TE.length < 4096
  rd : reads ≤ 4096
  rdt : a < n → reads ≤ 258 + TE.length
  rows : ∀ t ∈ TE, t ≠ [] ∧ t.length ≤ n ∧ ∀ z ∈ t, 0 ≤ z ∧ z < 256
  low : Below w0.heap.size w0 w
theorem txts_snoc (TE : List (List Int)) (t : List Int) : txts (TE ++ [t]) = txts TE ++ [.string (strOfNums t)] := by simp [txts]
theorem Mine.cast8 {w : World} {base p : Nat} {v : Value} {zs : List Int} (h : Mine w base v p zs) : Mine w base v zs.length zs := by rw [h.len]; exact h
/-- Behind a code. -/
theorem EnS.coded {w0 w w5 : World} {zs : List Int} {n a f reads q L5 : Nat} {TE : List (List Int)} {first : Bool} {bv tv v5 : Value} {O O5 : List Int} (h : EnS w0 w zs n a f TE reads first bv tv O) (hm : Mine w5 w0.heap.size v5 L5 O5) (hk : KeepX bv (w.drewN q) v5 w5) :
    Mine w5 w0.heap.size v5 O5.length O5 ∧ OwnV w5 w0.heap.size 9 tv (txts TE) ∧ (∀ b, v5.ownBlock = some b → tv.ownBlock ≠ some b) ∧ Below w0.heap.size w0 w5 := by
  have hs : (w.drewN q).heap.size = w.heap.size := rfl
  refine ⟨by rw [hm.len]; exact hm, (h.tab.drewN q).keep hk (fun b hb hc => h.sep b hc hb), fun b hb hc => ?_, (below_drewN h.low q).trans (hk.below (by rw [hs]; exact h.low.size) h.bits.owned)⟩
  rcases hk.own b hb with h1 | h1
  · exact h.sep b h1 hc
  · have := (h.tab.lt b hc).1
    omega
/-- Behind a text more in the table. -/
theorem tab_more {w5 w6 : World} {base L5 : Nat} {v5 tv v6 : Value} {O5 : List Int} {xs : List Value} {S : ByteArray} (hm : Mine w5 base v5 L5 O5) (ht : OwnV w5 base 9 tv xs) (hs : ∀ b, v5.ownBlock = some b → tv.ownBlock ≠ some b)
    (hk : KeepX tv (w5.alloc (.cells #[.string S] 9)) v6 w6) (hb : base ≤ w5.heap.size) : Mine w6 base v5 L5 O5 ∧ (∀ b, v5.ownBlock = some b → v6.ownBlock ≠ some b) ∧ Below base w5 w6 := by
  have b1 := (Below.refl w5.heap.size w5).alloc (Nat.le_refl _) (.cells #[.string S] 9)
  refine ⟨(hm.kept b1).keepX hk hs, fun b h5 h6 => ?_, (b1.mono hb).trans (hk.below (by simp; omega) (fun b hb2 => (ht.lt b hb2).2))⟩
  rcases hk.own b h6 with h1 | h1
  · exact hs b h5 h1
  · have := hm.lt b h5
    simp at h1
    omega
set_option maxHeartbeats 8000000 in
theorem refLzE (A : Option Addr) (n c : Nat) (zs : List Int) (w : World) (hb : Byt w w.heap.size A n c zs) (hn : n ≤ 100000) :
    Calls Try.prog 13 #[.slice A n c] w fun r w' => ∃ v, r = .returned v ∧ Mine w' w.heap.size v (lzEnc zs).length (lzEnc zs) ∧ Below w.heap.size w w' := by
  have HB := Lib.hid hb
  have HLEN := Lib.hid hb.len
  have HRG := Lib.hid hb.rng
  have hcp := hb.cap
  have HBL : Hid ((lzBits zs).length ≤ 3000000) := Lib.hid (by have := lzBits_len zs; rw [hb.len] at this; omega)
  have HC0 := Lib.hid (codeC w.heap.size 0 9 (.slice none 0 0) [] 256 w (Mine.nil _ _) (Nat.le_refl _) (by omega) (by omega) (by omega))
  clear hb
  go_enter Try.func13, Try.ntmps13
  go_wp2_with (go_at_call 25; refine HC0.out.mono ?_; (rintro r w1 ⟨v1, rfl, hm1, hk1⟩); have HM1 := Lib.hid hm1; have HK1 := Lib.hid hk1; clear hm1 hk1)
  have HS0 : Hid (EnS w w1 zs n 0 n [] 258 true v1 (.slice none 0 0) (hiB 256 9)) := Lib.hid (by
    have hm := HM1.out
    rw [List.nil_append] at hm
    refine ⟨by rw [lzBits, HLEN.out], by omega, by rw [hiB_len]; exact hm, OwnV.nil _ _ _, (fun b _ h => by cases h), by simp, by omega, (fun _ => by simp), (fun t h => by cases h), HK1.out.below (Nat.le_refl _) (fun b h => by cases h)⟩)
  go_loopw [3, 4, 5, 6, 7, 8, 9, 10, 11] (fun bx tx mv rv fv av _ _ _ wr => ∃ (bv tv : Value) (a f reads MN : Nat) (TE : List (List Int)) (first : Bool) (O : List Int), bv = bx ∧ tv = tx ∧ a ≤ n ∧ MN = 258 + TE.length ∧ mv = .int .i64 MN ∧ rv = .int .i64 reads ∧ fv = .bool first ∧ av = .int .i64 a ∧ Hid (EnS w wr zs n a f TE reads first bv tv O)) (fun _ _ _ _ _ av _ _ _ _ => n - (intOf av).toNat)
  case atStart => exact ⟨_, _, 0, n, 258, 258, [], true, _, rfl, rfl, Nat.zero_le _, rfl, rfl, rfl, rfl, rfl, HS0⟩
  case round =>
    obtain ⟨bv, tv, a, f, reads, MN, TE, first, O, rfl, rfl, ha, hMN, rfl, rfl, rfl, rfl, HS⟩ := hrel
    by_cases hlt : a < n
    · have hgz := HB.out.getD a
      have HBY := Lib.hid (HB.out.below HS.out.low (Nat.le_refl _))
      obtain ⟨b, o, rfl, _, hc⟩ := HBY.out.cell (by omega)
      have ck := hc a hlt
      obtain ⟨z, hz⟩ : ∃ z : Nat, zs.getD a 0 = z := ⟨(zs.getD a 0).toNat, by omega⟩
      rw [hz] at ck hgz
      have HZ := Lib.hid hz
      have hlti : (a : Int) < n := by omega
      have wz : IntKind.i64.wrap (z : Int) = z := IntWalk.i64_in _ (by omega)
      clear hc hz
      obtain ⟨TL, hTL⟩ : ∃ TL, TE.length = TL := ⟨_, rfl⟩
      rw [hTL] at hMN
      have hfew : TL < 3838 := by have := HS.out.few; omega
      have HMN := Lib.hid hMN
      have hMN4 : MN < 4096 := by omega
      clear hMN
      have HTL := Lib.hid hTL
      have hsh := HS.out.tab.cells
      obtain ⟨AT, cT, htv⟩ : ∃ AT cT, tv = .slice AT TL cT := by
        obtain ⟨AT, cT, e⟩ := HS.out.tab.shape
        exact ⟨AT, cT, by rw [e, txts_len, hTL]⟩
      subst htv
      have HSH := Lib.hid hsh
      clear hsh hTL
      go_wp2_with fail
      go_loopw [9, 10, 11] (fun cv nv kv wk => ∃ (k cc nn q : Nat), k ≤ TL ∧ cv = .int .i64 cc ∧ nv = .int .i64 nn ∧ kv = .int .i64 k ∧ 1 ≤ nn ∧ nn ≤ n + 1 ∧ cc < 5000 ∧ Hid (lzM zs a (TE.drop k) k (cc, nn) = lzBest zs a TE) ∧ wk = wr.drewN q) (fun _ _ kv _ => TL - (intOf kv).toNat)
      case atStart => exact ⟨0, z, 1, 0, Nat.zero_le _, rfl, rfl, rfl, by omega, by omega, by omega, Lib.hid (by rw [List.drop_zero, lzBest, HZ.out]; rfl), rfl⟩
      case round =>
        obtain ⟨k, cc, nn, q, hk, rfl, rfl, rfl, hn1, hn2, hcc, HB8, rfl⟩ := hrel
        by_cases hkl : k < TL
        · obtain ⟨g, cT', e, hgl, hgb, hcells⟩ : ∃ g c, Value.slice AT TL cT = .slice (some ⟨g, 0, none⟩) TL c ∧ g < wr.heap.size ∧ w.heap.size ≤ g ∧ ∀ i (hi : i < (txts TE).length), wr.cell? ⟨g, i, none⟩ = some ((txts TE)[i]'hi) := by
            rcases HSH.out with ⟨_, h2⟩ | ⟨g, c2, h2, h3, h4, h5⟩
            · have := congrArg List.length h2
              rw [txts_len, HTL.out] at this
              simp at this
              omega
            · exact ⟨g, c2, by rw [h2, txts_len, HTL.out], h3, h4, h5⟩
          injection e with e1 e2 e3
          subst e1 e3
          have hkt : k < (txts TE).length := by rw [txts_len, HTL.out]; exact hkl
          have cg := hcells k hkt
          rw [txts_get TE k hkt] at cg
          have hmem : TE.getD k [] ∈ TE := by
            have h2 : k < TE.length := by rw [HTL.out]; exact hkl
            rw [show TE.getD k [] = TE[k] by simp [List.getD, h2]]
            exact List.getElem_mem h2
          have hrow := HS.out.rows _ hmem
          have hst := lzM_step zs a k cc nn TE (by rw [HTL.out]; exact hkl)
          obtain ⟨t, ht⟩ : ∃ t, TE.getD k [] = t := ⟨_, rfl⟩
          rw [ht] at cg hrow hst
          have HST := Lib.hid (standsC _ n c _ a zs t (wr.drewN q) (HBY.out.drewN q) (by omega) hrow.2.2 hrow.1 (by omega))
          have hsz := strOfNums_size t
          obtain ⟨L, hL⟩ : ∃ L, t.length = L := ⟨_, rfl⟩
          rw [hL] at hsz hst hrow
          obtain ⟨bb, hbb⟩ : ∃ bb, stL zs a t = bb := ⟨_, rfl⟩
          rw [hbb] at HST hst
          obtain ⟨S, hS⟩ : ∃ S, strOfNums t = S := ⟨_, rfl⟩
          rw [hS] at HST hsz cg
          have hrl := hrow.2.1
          have hki : (k : Int) < TL := by omega
          have HB9 := HB8.out
          rw [hst] at HB9
          clear hcells hmem hrow hst ht hL hbb hS hkt
          by_cases hgt : nn < L
          · have hgi : (L : Int) > nn := by omega
            cases bb with
            | true =>
              rw [if_pos ⟨hgt, rfl⟩] at HB9
              have HB10 := Lib.hid HB9
              clear HB9
              have w5 : IntKind.i64.wrap ((258 : Int) + k) = (258 : Int) + k := IntWalk.i64_in _ (by omega)
              go_wp2_with (go_at_call 26; refine HST.out.mono ?_; (rintro r w3 ⟨rfl, rfl⟩))
              go_quiet (fail)
              go_wp2_with fail
              go_roundw
              case rel => exact ⟨k + 1, 258 + k, L, _, by omega, (by congr 1), rfl, by go_num, by omega, by omega, by omega, HB10, by rfl⟩
              case measure => simp [intOf]; omega
            | false =>
              rw [if_neg (by simp)] at HB9
              have HB10 := Lib.hid HB9
              clear HB9
              go_wp2_with (go_at_call 26; refine HST.out.mono ?_; (rintro r w3 ⟨rfl, rfl⟩))
              go_roundw
              case rel => exact ⟨k + 1, cc, nn, q, by omega, rfl, rfl, by go_num, by omega, by omega, by omega, HB10, rfl⟩
              case measure => simp [intOf]; omega
          · have hgi : ¬ (L : Int) > nn := by omega
            rw [if_neg (fun h => hgt h.1)] at HB9
            have HB10 := Lib.hid HB9
            clear HB9
            go_wp2_with fail
            go_roundw
            case rel => exact ⟨k + 1, cc, nn, q, by omega, rfl, rfl, by go_num, by omega, by omega, by omega, HB10, rfl⟩
            case measure => simp [intOf]; omega
        · obtain rfl : TL = k := by omega
          have hbest : (cc, nn) = lzBest zs a TE := by
            have h := HB8.out
            rw [List.drop_of_length_le (by rw [HTL.out]; exact Nat.le_refl _), lzM] at h
            exact h
          have hout := HS.out.out
          obtain ⟨f, rfl⟩ : ∃ j, f = j + 1 := ⟨f - 1, by have := HS.out.fuel; omega⟩
          rw [lzB, if_pos (by rw [HLEN.out]; exact hlt), ← hbest, HLEN.out, HTL.out] at hout
          dsimp only at hout
          have hcn : a + nn ≤ n ∧ cc < 4096 := by
            rcases best_is zs a TE with e | ⟨j, t, ht, hs, e⟩
            · rw [← hbest, HZ.out] at e
              injection e with e1 e2
              omega
            · rw [← hbest] at e
              injection e with e1 e2
              have hj : j < TE.length := (List.getElem?_eq_some_iff.1 ht).1
              rw [HTL.out] at hj
              have := stL_len zs a t hs
              rw [HLEN.out] at this
              omega
          obtain ⟨hnl, hc4⟩ := hcn
          have hrd := HS.out.rd
          have hrdt := HS.out.rdt hlt
          rw [HTL.out] at hrdt
          have hr4 : reads < 4096 := by omega
          have HWD := Lib.hid (fun W => widthC reads W (by omega))
          obtain ⟨WD, hWD⟩ : ∃ WD, wdZ reads = WD := ⟨_, rfl⟩
          have hwd := wdZ_bd reads
          rw [hWD] at HWD hout hwd
          have HOL : Hid (O.length ≤ 3000000) := Lib.hid (by
            have h1 := congrArg List.length hout
            rw [List.length_append] at h1
            have := HBL.out
            omega)
          have HCD := Lib.hid (codeC w.heap.size O.length WD bv O cc (wr.drewN q) (HS.out.bits.drewN q) HS.out.low.size (by have := HOL.out; omega) (by omega) (by omega))
          obtain ⟨P, hP⟩ : ∃ P, a + nn = P := ⟨_, rfl⟩
          have eP : (a : Int) + nn = P := by omega
          have wP : IntKind.i64.wrap (P : Int) = P := IntWalk.i64_in _ (by omega)
          obtain ⟨RN, hRN⟩ : ∃ RN, lzN reads first = RN := ⟨_, rfl⟩
          rw [hRN, hP] at hout
          obtain ⟨M1, hM1⟩ : ∃ M1, MN + 1 = M1 := ⟨_, rfl⟩
          have eM1 : (MN : Int) + 1 = M1 := by omega
          have wM1 : IntKind.i64.wrap (M1 : Int) = M1 := IntWalk.i64_in _ (by omega)
          have hmk : 258 + (TL + 1) = M1 := by have := HMN.out; omega
          rw [hmk] at hout
          obtain ⟨H1, hH1⟩ : ∃ H1, P + 1 = H1 := ⟨_, rfl⟩
          have eH1 : (P : Int) + 1 = H1 := by omega
          have wH1 : IntKind.i64.wrap (H1 : Int) = H1 := IntWalk.i64_in _ (by omega)
          have HOUT := Lib.hid hout
          have HPP := Lib.hid hP
          have HHH := Lib.hid hH1
          have HRR := Lib.hid hRN
          have HBEST := Lib.hid hbest
          have HWW := Lib.hid hWD
          have HM1 := Lib.hid hM1
          have hPn : P ≤ n := by omega
          have haP : a < P := by omega
          have hfirst : (first = true ∧ RN = reads) ∨ (first = false ∧ RN = reads + 1) := by
            unfold lzN at hRN
            cases first with
            | true => rw [if_neg (by simp)] at hRN; exact .inl ⟨rfl, hRN.symm⟩
            | false => rw [if_pos ⟨rfl, hr4⟩] at hRN; exact .inr ⟨rfl, hRN.symm⟩
          have hway : (P < n ∧ M1 = 4096) ∨ (P < n ∧ ¬ M1 = 4096) ∨ ¬ P < n := by omega
          clear hout hbest hRN hM1 hP hH1 hWD hmk
          rcases hfirst with ⟨rfl, hrn⟩ | ⟨rfl, hrn⟩
          all_goals
            first
              | (obtain rfl : RN = reads := hrn)
              | (have eR : (reads : Int) + 1 = RN := by omega
                 have wR : IntKind.i64.wrap (RN : Int) = RN := IntWalk.i64_in _ (by omega)
                 have hr4i : (reads : Int) < 4096 := by omega
                 have hrn2 : RN ≤ 4096 := by omega
                 have hrn3 : RN ≤ 258 + (TL + 1) := by omega
                 clear hrn)
            have HWN := Lib.hid (fun W => widthC RN W (by omega))
            have hwn := wdZ_bd RN
            obtain ⟨WN, hWN⟩ : ∃ WN, wdZ RN = WN := ⟨_, rfl⟩
            rw [hWN] at HWN hwn
            have HWNE := Lib.hid hWN
            clear hWN
            have hnb : n - P < n - a := by omega
            rcases hway with ⟨g1, g2⟩ | ⟨g1, g2⟩ | g1
            · have g1i : (P : Int) < n := by omega
              have g2i : ((M1 : Int) == 4096) = true := beq_iff_eq.2 (by omega)
              have HC2 := Lib.hid (fun W v (m L2 : Nat) (O2 : List Int) (hO2 : Mine W w.heap.size v L2 O2) (hW : w.heap.size ≤ W.heap.size) (hL2 : L2 ≤ 100000000) (hm : 0 < m ∧ m ≤ 12) => codeC w.heap.size L2 m v O2 256 W hO2 hW hL2 (by omega) hm)
              have HO5 : Hid ((O ++ hiB (cc : Int) WD).length ≤ 100000000) := Lib.hid (by rw [List.length_append, hiB_len]; have := HOL.out; omega)
              obtain ⟨AC, hAC⟩ : ∃ AC, cutA (some ⟨b, o, none⟩) c a = AC := ⟨_, rfl⟩
              obtain ⟨CC, hCC⟩ : ∃ CC, c - a = CC := ⟨_, rfl⟩
              obtain ⟨N1, hN1⟩ : ∃ N1, H1 - a = N1 := ⟨_, rfl⟩
              have hN1b : a + N1 ≤ n := by have := HHH.out; omega
              have hsl : ∀ W, (Instr.slice 23 (.slice (some ⟨b, o, none⟩) n c) (some (.int .i64 (a : Int))) (some (.int .i64 (H1 : Int))) none).run Try.prog W = .ok (.slice AC N1 CC) W := fun W => by
                have h := run_cut (P := Try.prog) W 23 5 Try.underlying23 (fun w => by kernel_rfl) (some ⟨b, o, none⟩) n c a H1 (by have := HHH.out; omega) (by have := HHH.out; omega)
                rw [hAC, hCC, hN1] at h
                exact h
              obtain ⟨t, ht⟩ : ∃ t, (zs.drop a).take N1 = t := ⟨_, rfl⟩
              have HCV := Lib.hid (fun W (hW : Below w.heap.size w W) => ((HB.out.below hW (Nat.le_refl _)).cut hN1b).inn.convert (P := Try.prog) ((HB.out.below hW (Nat.le_refl _)).cut hN1b).len (c - a) 23 5 9 Try.underlying23 Try.underlying5 Try.underlying9)
              rw [hAC, hCC, ht] at HCV
              have HT : Hid (t = (zs.drop a).take (nn + 1)) := Lib.hid (by rw [← ht, ← hN1]; congr 1; have := HHH.out; have := HPP.out; omega)
              have htl : t.length = N1 := by rw [← ht, List.length_take, List.length_drop, HLEN.out]; omega
              have htr : ∀ z ∈ t, 0 ≤ z ∧ z < 256 := fun z hz => by rw [← ht] at hz; exact HRG.out z (List.mem_of_mem_drop (List.mem_of_mem_take hz))
              have HTR : Hid (t ≠ [] ∧ t.length ≤ n ∧ ∀ z ∈ t, 0 ≤ z ∧ z < 256) := Lib.hid ⟨fun e => by rw [e] at htl; simp at htl; have := HHH.out; omega, by omega, htr⟩
              obtain ⟨S, hS⟩ : ∃ S, strOfNums t = S := ⟨_, rfl⟩
              rw [hS] at HCV
              have HSS := Lib.hid hS
              have hMN2 : 258 + (TL + 1) = M1 := by have := HMN.out; have := HM1.out; omega
              have HMK := Lib.hid hMN2
              clear hAC hCC hN1 ht htl htr hS hMN2
              go_wp2_with (first
                | (go_at_call 20; with_reducible refine (HWD.out _).mono ?_; (rintro r w3 ⟨rfl, rfl⟩))
                | (go_at_call 20; with_reducible refine (HWN.out _).mono ?_; (rintro r w3 ⟨rfl, rfl⟩))
                | (go_at_call 25; with_reducible refine HCD.out.mono ?_; (rintro r w5 ⟨v5, rfl, hm5, hk5⟩); have HCO := Lib.hid (HS.out.coded hm5 hk5); have hcv5 := HCV.out _ HCO.out.2.2.2; have HAP := Lib.hid ((HCO.out.2.1.low ((Below.refl _ _).alloc (Nat.le_refl _) (.cells #[.string S] 9))).text 65 w5.heap.size S (by simp [World.cell?_alloc_mark]) (by rw [txts_len, HTL.out]; omega) (Nat.le_trans HCO.out.2.2.2.size (by simp))); clear hm5 hk5)
                | (go_at_call 25; refine (HC2.out _ _ _ _ _ HT6.out.1 (Nat.le_trans HCO.out.2.2.2.size HT6.out.2.2.size) HO5.out (by omega)).mono ?_; (rintro r w7 ⟨v7, rfl, hm7, hk7⟩); have HM7 := Lib.hid hm7; have HK7 := Lib.hid hk7; clear hm7 hk7)
                | (at_builtin; obtain ⟨v6, w6, hrun, ho6, hk6, A6, c6, rfl⟩ := HAP.out; refine Lib.wpList_append_run_sl _ rfl (.tmp 72) (.tmp 81) 65 rfl _ _ rfl rfl hrun ?_; clear hrun; have HO6 := Lib.hid ho6; have HT6 := Lib.hid (tab_more HCO.out.1 HCO.out.2.1 HCO.out.2.2.1 hk6 HCO.out.2.2.2.size); clear ho6 hk6))
              have HL7 : Hid (Below w.heap.size w w7) := Lib.hid ((HCO.out.2.2.2.trans HT6.out.2.2).trans (HK7.out.below (Nat.le_trans HCO.out.2.2.2.size HT6.out.2.2.size) HT6.out.1.owned))
              exact ⟨⟨v7, _, P, f, 258, 258, [], true, _, rfl, rfl, hPn, rfl, rfl, rfl, rfl, rfl, Lib.hid
                ⟨by have h := HOUT.out; rw [if_pos g1, if_pos g2] at h; rw [List.append_assoc, List.append_assoc]; first | (rw [HWW.out] at h; exact h) | (rw [HWNE.out] at h; exact h), by have := HS.out.fuel; omega, HM7.out.cast8, OwnV.nil _ _ _, (fun b _ h => by cases h), by simp, by omega, (fun _ => by simp), (fun t h => by cases h), HL7.out⟩⟩, hnb⟩
            · have g1i : (P : Int) < n := by omega
              have g2i : ((M1 : Int) == 4096) = false := beq_eq_false_iff_ne.2 (by omega)
              obtain ⟨AC, hAC⟩ : ∃ AC, cutA (some ⟨b, o, none⟩) c a = AC := ⟨_, rfl⟩
              obtain ⟨CC, hCC⟩ : ∃ CC, c - a = CC := ⟨_, rfl⟩
              obtain ⟨N1, hN1⟩ : ∃ N1, H1 - a = N1 := ⟨_, rfl⟩
              have hN1b : a + N1 ≤ n := by have := HHH.out; omega
              have hsl : ∀ W, (Instr.slice 23 (.slice (some ⟨b, o, none⟩) n c) (some (.int .i64 (a : Int))) (some (.int .i64 (H1 : Int))) none).run Try.prog W = .ok (.slice AC N1 CC) W := fun W => by
                have h := run_cut (P := Try.prog) W 23 5 Try.underlying23 (fun w => by kernel_rfl) (some ⟨b, o, none⟩) n c a H1 (by have := HHH.out; omega) (by have := HHH.out; omega)
                rw [hAC, hCC, hN1] at h
                exact h
              obtain ⟨t, ht⟩ : ∃ t, (zs.drop a).take N1 = t := ⟨_, rfl⟩
              have HCV := Lib.hid (fun W (hW : Below w.heap.size w W) => ((HB.out.below hW (Nat.le_refl _)).cut hN1b).inn.convert (P := Try.prog) ((HB.out.below hW (Nat.le_refl _)).cut hN1b).len (c - a) 23 5 9 Try.underlying23 Try.underlying5 Try.underlying9)
              rw [hAC, hCC, ht] at HCV
              have HT : Hid (t = (zs.drop a).take (nn + 1)) := Lib.hid (by rw [← ht, ← hN1]; congr 1; have := HHH.out; have := HPP.out; omega)
              have htl : t.length = N1 := by rw [← ht, List.length_take, List.length_drop, HLEN.out]; omega
              have htr : ∀ z ∈ t, 0 ≤ z ∧ z < 256 := fun z hz => by rw [← ht] at hz; exact HRG.out z (List.mem_of_mem_drop (List.mem_of_mem_take hz))
              have HTR : Hid (t ≠ [] ∧ t.length ≤ n ∧ ∀ z ∈ t, 0 ≤ z ∧ z < 256) := Lib.hid ⟨fun e => by rw [e] at htl; simp at htl; have := HHH.out; omega, by omega, htr⟩
              obtain ⟨S, hS⟩ : ∃ S, strOfNums t = S := ⟨_, rfl⟩
              rw [hS] at HCV
              have HSS := Lib.hid hS
              have hMN2 : 258 + (TL + 1) = M1 := by have := HMN.out; have := HM1.out; omega
              have HMK := Lib.hid hMN2
              clear hAC hCC hN1 ht htl htr hS hMN2
              go_wp2_with (first
                | (go_at_call 20; with_reducible refine (HWD.out _).mono ?_; (rintro r w3 ⟨rfl, rfl⟩))
                | (go_at_call 25; refine HCD.out.mono ?_; (rintro r w5 ⟨v5, rfl, hm5, hk5⟩); have HCO := Lib.hid (HS.out.coded hm5 hk5); have hcv5 := HCV.out _ HCO.out.2.2.2; have HAP := Lib.hid ((HCO.out.2.1.low ((Below.refl _ _).alloc (Nat.le_refl _) (.cells #[.string S] 9))).text 65 w5.heap.size S (by simp [World.cell?_alloc_mark]) (by rw [txts_len, HTL.out]; omega) (Nat.le_trans HCO.out.2.2.2.size (by simp))); clear hm5 hk5)
                | (at_builtin; obtain ⟨v6, w6, hrun, ho6, hk6, A6, c6, rfl⟩ := HAP.out; refine Lib.wpList_append_run_sl _ rfl (.tmp 72) (.tmp 81) 65 rfl _ _ rfl rfl hrun ?_; clear hrun; have HO6 := Lib.hid ho6; have HT6 := Lib.hid (tab_more HCO.out.1 HCO.out.2.1 HCO.out.2.2.1 hk6 HCO.out.2.2.2.size); clear ho6 hk6))
              exact ⟨⟨v5, _, P, f, RN, M1, TE ++ [t], false, _, rfl, rfl, hPn, by rw [List.length_append, HTL.out]; exact HMK.out.symm, rfl, rfl, rfl, rfl, Lib.hid
                ⟨by have h := HOUT.out; rw [if_pos g1, if_neg g2, ← HT.out] at h; rw [List.append_assoc]; exact h, by have := HS.out.fuel; omega, HT6.out.1, by rw [txts_snoc, HSS.out]; exact HO6.out, HT6.out.2.1, by rw [List.length_append, HTL.out]; have := HMK.out; simp; omega, by omega, (fun _ => by rw [List.length_append, HTL.out]; simp; omega), (fun t' ht' => by
                  rcases List.mem_append.1 ht' with h | h
                  · exact HS.out.rows t' h
                  · simp only [List.mem_singleton] at h; rw [h]; exact HTR.out), HCO.out.2.2.2.trans HT6.out.2.2⟩⟩, hnb⟩
            · have g1i : ¬ (P : Int) < n := by omega
              go_wp2_with (first
                | (go_at_call 20; with_reducible refine (HWD.out _).mono ?_; (rintro r w3 ⟨rfl, rfl⟩))
                | (go_at_call 25; refine HCD.out.mono ?_; (rintro r w5 ⟨v5, rfl, hm5, hk5⟩); have HCO := Lib.hid (HS.out.coded hm5 hk5); clear hm5 hk5))
              exact ⟨⟨v5, _, P, f, RN, MN, TE, false, _, rfl, rfl, hPn, by rw [HTL.out]; exact HMN.out, rfl, rfl, rfl, rfl, Lib.hid
                ⟨by have h := HOUT.out; rw [if_neg g1] at h; rw [List.append_assoc]; exact h, by have := HS.out.fuel; omega, HCO.out.1, HCO.out.2.1, HCO.out.2.2.1, HS.out.few, by omega, (fun h => absurd h g1), HS.out.rows, HCO.out.2.2.2⟩⟩, hnb⟩
    · obtain rfl : n = a := by omega
      have hout := HS.out.out
      rw [lzB_out zs f n TE reads first (by rw [HLEN.out]; exact Nat.le_refl _)] at hout
      have hrd := HS.out.rd
      have HWD := Lib.hid (fun W => widthC reads W (by omega))
      have hwd := wdZ_bd reads
      obtain ⟨WD, hWD⟩ : ∃ WD, wdZ reads = WD := ⟨_, rfl⟩
      rw [hWD] at HWD hout hwd
      have hol := congrArg List.length hout
      rw [List.length_append, hiB_len] at hol
      have HOL : Hid (O.length ≤ 3000000) := Lib.hid (by have := HBL.out; omega)
      have HCD := Lib.hid (codeC w.heap.size O.length WD bv O 257 wr HS.out.bits HS.out.low.size (by have := HOL.out; omega) (by omega) (by omega))
      rw [hout, hol] at HCD
      have hb01 := lzBits_bit zs
      have HEE : Hid (lzEnc zs = packZ (lzBits zs)) := Lib.hid rfl
      obtain ⟨BT, hBT⟩ : ∃ BT, lzBits zs = BT := ⟨_, rfl⟩
      rw [hBT] at HCD hb01 HEE
      have hblen := HBL.out
      rw [hBT] at hblen
      obtain ⟨LN, hLN⟩ : ∃ LN, BT.length = LN := ⟨_, rfl⟩
      rw [hLN] at HCD
      rw [hLN] at hblen
      have HLN := Lib.hid hLN
      have H01 := Lib.hid hb01
      clear hout hol hBT hLN hb01 hWD HBL
      have HQ := Lib.hid (fun v5 w5 (hk : KeepX bv wr v5 w5) => HS.out.low.trans (hk.below HS.out.low.size HS.out.bits.owned))
      go_wp2_with (first
        | (go_at_call 20; with_reducible refine (HWD.out _).mono ?_; (rintro r w3 ⟨rfl, rfl⟩))
        | (go_at_call 25; refine HCD.out.mono ?_; (rintro r w5 ⟨v5, rfl, hm5, hk5⟩); have HM5 := Lib.hid hm5; have HB5 := Lib.hid (HQ.out _ _ hk5); obtain ⟨A5, c5, hv5, _⟩ := hm5.byt; subst hv5; clear hm5 hk5))
      go_loopw [12, 13] (fun ox iv wr2 => ∃ (k : Nat) (ov : Value), ov = ox ∧ k ≤ LN ∧ iv = .int .i64 k ∧ Hid (Mine wr2 w.heap.size ov (packZ (BT.take k)).length (packZ (BT.take k))) ∧ Hid (Mine wr2 w.heap.size (.slice A5 LN c5) LN BT) ∧ Hid (∀ b, (Value.slice A5 LN c5).ownBlock = some b → ov.ownBlock ≠ some b) ∧ Hid (Below w.heap.size w wr2)) (fun _ iv _ => LN - (intOf iv).toNat)
      case atStart => exact ⟨0, _, rfl, Nat.zero_le _, rfl, Lib.hid (by rw [List.take_zero]; exact Mine.nil _ _), HM5, Lib.hid (fun b _ h => by cases h), HB5⟩
      case round =>
        obtain ⟨k, ov, rfl, hk, rfl, HO, HV, HSEP, HBE⟩ := hrel
        by_cases hlk : k < LN
        · have hx := bit_at BT H01.out k
          obtain ⟨x, hxe⟩ : ∃ x, BT.getD k 0 = x := ⟨_, rfl⟩
          rw [hxe] at hx
          have htk : BT.take (k + 1) = BT.take k ++ [x] := by rw [← hxe]; exact take_snocZ BT k (by rw [HLN.out]; exact hlk)
          have htl : (BT.take k).length = k := by rw [List.length_take, HLN.out]; omega
          have htb : ∀ y ∈ BT.take k, 0 ≤ y ∧ y ≤ 1 := fun y hy => H01.out y (List.mem_of_mem_take hy)
          obtain ⟨Q, hQ⟩ : ∃ Q, k / 8 = Q := ⟨_, rfl⟩
          obtain ⟨R, hR⟩ : ∃ R, k % 8 = R := ⟨_, rfl⟩
          have hR8 : R < 8 := by omega
          have hps := packZ_snoc (BT.take k) x
          have hpl := packR_len (BT.take k)
          have hpg := packR_get (BT.take k) Q (by rw [htl]; omega)
          have hzb := bz8_bd (BT.take k) htb Q
          have hzl := bz8_low (BT.take k) Q R htb (by rw [htl]; omega) hR8
          rw [htl, hQ, hR] at hps
          rw [htl, hQ] at hpl
          obtain ⟨z, hz⟩ : ∃ z, bz8 (BT.take k) Q = z := ⟨_, rfl⟩
          rw [hz] at hps hpg hzb hzl
          have hor := or_high8 z x R hR8 hzb.1 hzb.2 hzl (by omega)
          obtain ⟨s, hs⟩ : ∃ s, 7 - R = s := ⟨_, rfl⟩
          rw [hs] at hps hor
          have hxs : IntKind.u8.wrap (x * 2 ^ s) = x * 2 ^ s := by
            have e : ∀ r : Fin 8, (2 : Int) ^ r.val ≤ 128 ∧ 0 < (2 : Int) ^ r.val := by decide
            have := e ⟨s, by omega⟩
            dsimp only at this
            rw [IntKind.wrap_u8]
            rcases (by omega : x = 0 ∨ x = 1) with h | h <;> rw [h] <;> omega
          have HZE : Hid (bits .or .u8 z (x * 2 ^ min s 8 % 256) = z + x * 2 ^ s) := Lib.hid (by rw [show min s 8 = s by omega]; rw [IntKind.wrap_u8] at hxs; rw [hxs, hor])
          obtain ⟨PR, hPR⟩ : ∃ PR, packR (BT.take k) = PR := ⟨_, rfl⟩
          rw [hPR] at hps hpl hpg
          obtain ⟨Q1, hQ1⟩ : ∃ Q1, Q + 1 = Q1 := ⟨_, rfl⟩
          rw [hQ1] at hpl
          obtain ⟨b5, c5', e5, hb5, hb5l, hb5f, hb5c⟩ := HV.out.block8 (by omega)
          injection e5 with e51 e52 e53
          subst e51 e53
          have HU : Hid (∀ W U, Mine W w.heap.size (.slice (some ⟨b5, 0, none⟩) LN c5) LN BT → ∀ b6 c6, b5 ≠ b6 → Mine W w.heap.size (.slice (some ⟨b6, 0, none⟩) Q1 c6) Q1 PR → U = z + x * 2 ^ s →
              Mine (W.setCell ⟨b6, Q, none⟩ (.int .u8 U)) w.heap.size (.slice (some ⟨b6, 0, none⟩) Q1 c6) (packZ (BT.take (k + 1))).length (packZ (BT.take (k + 1))) ∧ Mine (W.setCell ⟨b6, Q, none⟩ (.int .u8 U)) w.heap.size (.slice (some ⟨b5, 0, none⟩) LN c5) LN BT ∧ Below w.heap.size W (W.setCell ⟨b6, Q, none⟩ (.int .u8 U))) := Lib.hid (by
            intro W U hV b6 c6 hne hO hU
            have hUr : 0 ≤ U ∧ U < 256 := by
              have := packZ_rng (BT.take (k + 1)) (fun y hy => H01.out y (List.mem_of_mem_take hy)) U (by rw [htk, hps, ← hU]; exact List.mem_set (by rw [hpl]; omega) U)
              exact this
            have h1 := hO.put8 Q U (by omega) hUr
            refine ⟨?_, hV.same8 fun b hb _ => Below.heap_setCell W ⟨b6, Q, none⟩ _ b (fun e => hne (by injection hb with hb; exact hb.trans e)), ((Only.refl b6 W).set_ Q _).belowB (hO.owned b6 rfl) (Nat.le_of_lt (hO.lt b6 rfl))⟩
            rw [htk, hps, List.length_set, hpl, ← hU]
            exact h1)
          have d1 : (k : Int) / 8 = Q := by omega
          have d2 : (k : Int) % 8 = R := by omega
          have d1' : (k : Int).tdiv 8 = Q := by rw [Int.tdiv_eq_ediv_of_nonneg (by omega)]; omega
          have d2' : (k : Int).tmod 8 = R := by rw [Int.tmod_eq_emod_of_nonneg (by omega)]; omega
          have d3 : (7 : Int) - R = s := by omega
          have hs8 : s < 8 := by omega
          have wQ : IntKind.i64.wrap (Q : Int) = Q := IntWalk.i64_in _ (by omega)
          have wR : IntKind.i64.wrap (R : Int) = R := IntWalk.i64_in _ (by omega)
          have ws : IntKind.i64.wrap (s : Int) = s := IntWalk.i64_in _ (by omega)
          have hki : (k : Int) < LN := by omega
          have hQi : (Q : Int) < Q1 := by omega
          have HPR := Lib.hid hPR
          have HPL := Lib.hid hpl
          have HPG := Lib.hid hpg
          have HQ1 := Lib.hid hQ1
          have HBX := Lib.hid hxe
          have hzr := hzb
          clear hxe htk htl htb hps hor hxs hzl hPR hpl hpg hQ1 hb5f
          by_cases h8 : R = 0
          · have t8 : ((R : Int) == 0) = true := beq_iff_eq.2 (by omega)
            have hpq : packZ (BT.take k) ++ [0] = PR := by
              have h := HPR.out
              rw [packR, if_pos (by rw [List.length_take, HLN.out]; omega)] at h
              exact h
            have hpz : (packZ (BT.take k)).length + 1 = Q1 := by
              have h := congrArg List.length hpq
              rw [List.length_append] at h
              have := HPL.out
              simp only [List.length_cons, List.length_nil] at h
              omega
            have hp9 : (packZ (BT.take k)).length ≤ 3000000 := by rw [packZ_len, List.length_take]; omega
            have HAP := Lib.hid ((HO.out.kept ((Below.refl _ _).alloc (Nat.le_refl _) (.cells #[.int .u8 0] 5))).appendX (byt_lit0 wr 0 (by omega)) 23 (by omega) (Nat.le_trans HBE.out.size (by simp)))
            rw [hpq, hpz] at HAP
            obtain ⟨A0, c0, hov, _⟩ := HO.out.byt
            subst hov
            obtain ⟨v6, w6, hrun, hm6, hk6⟩ := HAP.out
            have hb1 := (Below.refl wr.heap.size wr).alloc (Nat.le_refl _) (.cells #[.int .u8 0] 5)
            have hv6 := (HV.out.kept hb1).keepX hk6 HSEP.out
            obtain ⟨b6, c6, rfl, _, hbl6, hbf6, hbc6⟩ := hm6.block8 (by omega)
            have hne6 : b5 ≠ b6 := fun e => by
              subst e
              rcases hk6.own b5 rfl with h | h
              · exact HSEP.out b5 rfl h
              · simp at h; omega
            obtain ⟨b5', c5'', e5, _, hb5l', hb5f', hb5c'⟩ := hv6.block8 (by omega)
            injection e5 with e51 e52 e53
            injection e51 with e51
            injection e51 with e51
            subst e51 e53
            have m0 := hb5c' k hlk
            rw [HBX.out] at m0
            have m1 := hbc6 Q (by omega)
            rw [HPG.out] at m1
            have mf := hbf6 Q
            have HM6 := Lib.hid hm6
            have HV6 := Lib.hid hv6
            have HNE := Lib.hid hne6
            have HB6 : Hid (Below w.heap.size w w6) := Lib.hid ((HBE.out.trans (hb1.mono HBE.out.size)).trans (hk6.below (Nat.le_trans HBE.out.size (by simp)) HO.out.owned))
            have HRUN := Lib.hid hrun
            clear hp9 hpq hpz HAP hrun hm6 hk6 hb1 hv6 hbl6 hbf6 hbc6 hne6 hb5l' hb5f' hb5c' hb5c hb5l hb5 h8
            go_upto_region 29 with fail
            go_wp2_with (at_builtin; refine Lib.wpList_append_run_sl _ rfl (.tmp 107) (.tmp 108) 23 rfl _ _ rfl rfl HRUN.out ?_)
            go_still_tail 19, (by kernel_rfl)
            change wpList _ _ _ _ _ (w6.drewN 1)
            go_wp2_with fail
            have H7 := Lib.hid (HU.out (w6.drewN 1) _ (HV6.out.drewN 1) b6 c6 HNE.out (HM6.out.drewN 1) HZE.out)
            exact ⟨⟨k + 1, _, rfl, by omega, by go_num, Lib.hid H7.out.1, Lib.hid H7.out.2.1, Lib.hid (fun b hb hc => HNE.out (by injection hb with hb; injection hc with hc; exact hb.trans hc.symm)), Lib.hid ((below_drewN HB6.out 1).trans H7.out.2.2)⟩, by simp [intOf]; omega⟩
          · have t8 : ((R : Int) == 0) = false := beq_eq_false_iff_ne.2 (by omega)
            have hpq : packZ (BT.take k) = PR := by
              have h := HPR.out
              rw [packR, if_neg (by rw [List.length_take, HLN.out]; omega), List.append_nil] at h
              exact h
            have ho := HO.out
            rw [hpq, HPL.out] at ho
            obtain ⟨b6, c6, rfl, _, hbl6, hbf6, hbc6⟩ := ho.block8 (by omega)
            have hne6 : b5 ≠ b6 := fun e => HSEP.out b5 rfl (by rw [e]; rfl)
            have m0 := hb5c k hlk
            rw [HBX.out] at m0
            have m1 := hbc6 Q (by omega)
            rw [HPG.out] at m1
            have mf := hbf6 Q
            have HM6 := Lib.hid ho
            have HV6 := HV
            have HNE := Lib.hid hne6
            have HB6 := HBE
            clear hpq ho hbl6 hbf6 hbc6 hne6 hb5c hb5l hb5 h8
            go_wp2_with fail
            go_still_tail 19, (by kernel_rfl)
            change wpList _ _ _ _ _ (wr.drewN 1)
            go_wp2_with fail
            have H7 := Lib.hid (HU.out (wr.drewN 1) _ (HV6.out.drewN 1) b6 c6 HNE.out (HM6.out.drewN 1) HZE.out)
            exact ⟨⟨k + 1, _, rfl, by omega, by go_num, Lib.hid H7.out.1, Lib.hid H7.out.2.1, Lib.hid (fun b hb hc => HNE.out (by injection hb with hb; injection hc with hc; exact hb.trans hc.symm)), Lib.hid ((below_drewN HB6.out 1).trans H7.out.2.2)⟩, by simp [intOf]; omega⟩
        · obtain rfl : LN = k := by omega
          have ho := HO.out
          rw [List.take_of_length_le (by rw [HLN.out]; exact Nat.le_refl _)] at ho
          have HO2 := Lib.hid ho
          clear ho
          go_wp2_with fail
          go_ret
          exact ⟨_, rfl, by rw [HEE.out]; exact HO2.out, HBE.out⟩
end Go.Proofs.Ytpnnejedfccckaa
