/- ParseDeep: so many brackets in one another as may be, are read; one more is too deep, told at its bracket. No condition on the input. -/
import Derived.Deep.Grids
import Derived.Test.YtnlpdnimfaipmaaDe40
namespace Go.Proofs.Ytnlpdnimfaipmaa
open Go.ChangeShapes Go.WideShapes Go.ChangeAt Go.RowKit Go.Deep
set_option linter.unusedVariables false
set_option maxRecDepth 100000
/-- A slice of yes and no. -/
structure Bls (w : World) (B : Nat) (A : Option Addr) (n c : Nat) (ks : List Bool) : Prop where
  len : ks.length = n
  cap : n ≤ c
  cell : 0 < n → ∃ b o, A = some ⟨b, o, none⟩ ∧ b < B ∧ ∀ i, i < n → w.cell? ⟨b, o + i, none⟩ = some (.bool (ks.getD i false))
theorem Bls.below {w w' : World} {B B' n c : Nat} {A : Option Addr} {ks : List Bool} (h : Bls w B A n c ks) (hb : Below B' w w') (hB : B ≤ B') : Bls w' B A n c ks :=
  ⟨h.len, h.cap, fun hn => by
    obtain ⟨b, o, e, hlt, hc⟩ := h.cell hn
    exact ⟨b, o, e, hlt, fun i hi => (hb.cell (p := ⟨b, o + i, none⟩) (Nat.lt_of_lt_of_le hlt hB)).trans (hc i hi)⟩⟩
theorem open_bls {H : Type} {enc : TypeId × Value → H} {W : World} {base : Nat} {held : Bool} {A : Option Addr} {len cap : Nat} {d : DataW H} {p : List MemPlace}
    (h : DataW.Trod enc Try.prog W base (fun _ => true) held 63 (.slice A len cap) d p) : ∃ ks, Bls W W.heap.size A len cap ks ∧ cap ≤ maxLen := by
  obtain ⟨fuel, hf⟩ := h
  rcases open_bools Try.underlying63 Try.underlying4 (by kernel_rfl) hf with ⟨hcs, _⟩ | ⟨x, l, c, Z, hcs, _, hl, hm, _, hcell⟩
  · simp [Value.cells] at hcs
    obtain ⟨rfl, rfl, rfl⟩ := hcs
    exact ⟨[], ⟨rfl, Nat.le_refl _, fun h => absurd h (by omega)⟩, Nat.zero_le _⟩
  · simp [Value.cells] at hcs
    obtain ⟨rfl, rfl, rfl⟩ := hcs
    refine ⟨(List.range len).map Z, ⟨by simp, hl, fun h0 => ?_⟩, hm⟩
    obtain ⟨b, o, spot⟩ := x
    have hspot : spot = none := by simpa [Addr.add] using World.cell?_spot (hcell 0 (by omega))
    subst hspot
    have hc : ∀ i, i < len → W.cell? ⟨b, o + i, none⟩ = some (.bool (Z i)) := fun i hi => by
      rw [← Go.WideShapes.add_plain]
      exact hcell i (by omega)
    exact ⟨b, o, rfl, cell_lt (hc 0 (by omega)), fun i hi => by
      rw [hc i hi]
      simp [List.getD, hi]⟩
theorem take_more (ks : List Bool) (i : Nat) (h : i < ks.length) : ks.take (i + 1) = ks.take i ++ [ks.getD i false] := by
  rw [List.take_add_one, List.getElem?_eq_getElem h]
  simp [List.getD, h]
theorem dpZ_M (x : Nat) : ∃ M : Nat, dpZ ((x % 40 : Nat) : Int) = M ∧ min ((x % 40 : Nat) : Int) 28 = (M : Int) ∧ M ≤ 28 := by
  refine ⟨_, rfl, ?_, dpZ_le _⟩
  unfold dpZ
  split
  · omega
  · split <;> omega
theorem opL_len : ∀ ks : List Bool, (opL ks).length ≤ 5 * ks.length
  | [] => Nat.le_refl _
  | k :: ks => by
    have := opL_len ks
    rw [opL, List.length_append, List.length_cons]
    cases k <;> simp [opB] <;> omega
theorem clL_len : ∀ ks : List Bool, (clL ks).length ≤ 2 * ks.length
  | [] => Nat.le_refl _
  | k :: ks => by
    have := clL_len ks
    rw [clL, List.length_append, List.length_cons]
    cases k <;> simp [clB] <;> omega
set_option maxHeartbeats 8000000 in
theorem deep_main (A : Option Addr) (n c : Nat) (ks : List Bool) (x : Nat) (w : World) (hz : Bls w w.heap.size A n c ks) (hn : n ≤ 60) (hx : x ≤ 255) :
    Calls Try.prog 8 #[.slice A n c, .int .u8 x] w fun e w' => e = .returned (.bool true) ∧ Below w.heap.size w w' := by
  have HAW := Lib.hid (awake_any12 w)
  have HZ := Lib.hid hz
  have g1 : ¬ (n : Int) > 60 := by omega
  obtain ⟨M, hM, hM2, hM3⟩ := dpZ_M x
  have HM := Lib.hid hM
  have HM3 := Lib.hid hM3
  have HLN := Lib.hid hz.len
  have HNN := Lib.hid hn
  clear hz
  go_enter Try.func8, Try.ntmps8
  go_upto_region 5 with (first
    | (go_at_call 41; refine HAW.out.mono ?_; (rintro e w1 ⟨rfl, hb1⟩); have HB1 := Lib.hid hb1; clear hb1))
  have hr1 : IntKind.i64.wrap (x : Int) = (x : Int) := IntWalk.i64_in _ (by omega)
  have hr2 : Int.tmod (x : Int) 40 = ((x % 40 : Nat) : Int) := by rw [Int.tmod_eq_emod_of_nonneg (by omega)]; omega
  go_upto_region 10 with fail
  clear hr1 hr2 hM g1 HAW
  obtain ⟨Y, hY⟩ : ∃ Y, x % 40 = Y := ⟨_, rfl⟩
  have HYL : Hid (Y ≤ 39) := Lib.hid (by omega)
  have hxe : (x : Int) % 40 = (Y : Int) := by omega
  have hme : min (Y : Int) 28 = (M : Int) := by rw [← hY]; exact hM2
  simp only [hY] at HM
  simp only [hxe, hme]
  clear hY hx hxe hme hM2
  go_loopw [7, 8, 9, 10] (fun s7 s8 s9 s10 wr => ∃ (i : Nat) (S E : ByteArray), s7 = .string S ∧ s8 = .string E ∧ s9 = .int .i64 (if M < i then ((opL (ks.take M)).length : Int) else -1) ∧ s10 = .int .i64 i ∧ i ≤ n ∧ Hid (strZ S = opL (ks.take i)) ∧ Hid (strZ E = clL (ks.take i)) ∧ Hid (Below w.heap.size w wr)) (fun _ _ _ s10 _ => n - (intOf s10).toNat)
  case atStart => exact ⟨0, ⟨#[]⟩, ⟨#[]⟩, rfl, rfl, by rw [if_neg (by omega)], rfl, Nat.zero_le _, Lib.hid rfl, Lib.hid rfl, HB1⟩
  case round =>
    obtain ⟨i, S, E, rfl, rfl, rfl, rfl, hin, HS, HE, HB⟩ := hrel
    by_cases hi : i < n
    · have gi : (i : Int) < n := by omega
      obtain ⟨b, o, rfl, hlt, hcl⟩ := HZ.out.cell (by omega)
      have hce0 : wr.cell? ⟨b, o + i, none⟩ = some (.bool (ks.getD i false)) := (HB.out.cell (p := ⟨b, o + i, none⟩) hlt).trans (hcl i hi)
      have htk := take_more ks i (by rw [HLN.out]; exact hi)
      have hSL : S.size = (opL (ks.take i)).length := by rw [← HS.out, strZ_len]
      have HTK := Lib.hid htk
      have HSL := Lib.hid hSL
      have htl2 : (ks.take i).length ≤ 60 := by rw [List.length_take]; have := HNN.out; omega
      have hsb : S.size ≤ 1000 := by have := opL_len (ks.take i); omega
      have heb : E.size ≤ 1000 := by have := clL_len (ks.take i); have : E.size = (clL (ks.take i)).length := by rw [← HE.out, strZ_len]
                                     omega
      clear htl2
      have HNN2 : Hid (i < 61) := Lib.hid (by have := HNN.out; omega)
      obtain ⟨k, hk⟩ : ∃ k, ks.getD i false = k := ⟨_, rfl⟩
      rw [hk] at hce0 HTK
      clear hcl htk hSL hk hlt
      have HSO : Hid (strZ (S ++ ⟨#[91]⟩) = opL (ks.take i) ++ [91]) := Lib.hid (by rw [strZ_app, HS.out]; rfl)
      have HSO2 : Hid (strZ (S ++ ⟨#[60, 60, 47, 75, 32]⟩) = opL (ks.take i) ++ [60, 60, 47, 75, 32]) := Lib.hid (by rw [strZ_app, HS.out]; rfl)
      have HEO : Hid (strZ (⟨#[93]⟩ ++ E) = [93] ++ clL (ks.take i)) := Lib.hid (by rw [strZ_app, HE.out]; rfl)
      have HEO2 : Hid (strZ (⟨#[62, 62]⟩ ++ E) = [62, 62] ++ clL (ks.take i)) := Lib.hid (by rw [strZ_app, HE.out]; rfl)
      by_cases hm : i = M
      · subst hm
        have e9 : (if i < i + 1 then ((opL (ks.take i)).length : Int) else -1) = (S.size : Int) := by rw [if_pos (Nat.lt_succ_self _), HSL.out]
        have HE9 := Lib.hid e9
        clear e9
        cases k
        · go_wp2_with fail
          go_roundw
          case rel => exact ⟨i + 1, _, _, rfl, rfl, by rw [HE9.out], by go_num, by omega, Lib.hid (by rw [HTK.out, opL_snoc]; exact HSO2.out), Lib.hid (by rw [HTK.out, clL_snoc]; exact HEO2.out), HB⟩
          case measure => have := HNN2.out; simp [intOf]; omega
        · go_wp2_with fail
          go_roundw
          case rel => exact ⟨i + 1, _, _, rfl, rfl, by rw [HE9.out], by go_num, by omega, Lib.hid (by rw [HTK.out, opL_snoc]; exact HSO.out), Lib.hid (by rw [HTK.out, clL_snoc]; exact HEO.out), HB⟩
          case measure => have := HNN2.out; simp [intOf]; omega
      · have gm : ((i : Int) == (M : Int)) = false := beq_eq_false_iff_ne.2 (by omega)
        have e9 : (if M < i + 1 then ((opL (ks.take M)).length : Int) else -1) = (if M < i then ((opL (ks.take M)).length : Int) else -1) := by
          by_cases h : M < i
          · rw [if_pos h, if_pos (by omega)]
          · rw [if_neg h, if_neg (by omega)]
        have HE9 := Lib.hid e9
        clear e9
        obtain ⟨V, hV⟩ : ∃ V, (if M < i then ((opL (ks.take M)).length : Int) else -1) = V := ⟨_, rfl⟩
        rw [hV] at HE9
        simp only [hV]
        clear hV
        cases k
        · go_wp2_with fail
          go_roundw
          case rel => exact ⟨i + 1, _, _, rfl, rfl, by rw [HE9.out], by go_num, by omega, Lib.hid (by rw [HTK.out, opL_snoc]; exact HSO2.out), Lib.hid (by rw [HTK.out, clL_snoc]; exact HEO2.out), HB⟩
          case measure => have := HNN2.out; simp [intOf]; omega
        · go_wp2_with fail
          go_roundw
          case rel => exact ⟨i + 1, _, _, rfl, rfl, by rw [HE9.out], by go_num, by omega, Lib.hid (by rw [HTK.out, opL_snoc]; exact HSO.out), Lib.hid (by rw [HTK.out, clL_snoc]; exact HEO.out), HB⟩
          case measure => have := HNN2.out; simp [intOf]; omega
    · obtain rfl : i = n := by omega
      have htl : ks.take i = ks := List.take_of_length_le (Nat.le_of_eq HLN.out)
      have hS := HS.out
      have hE := HE.out
      rw [htl] at hS hE
      have hSL : S.size = (opL ks).length := by rw [← hS, strZ_len]
      have hEL : E.size = (clL ks).length := by rw [← hE, strZ_len]
      obtain ⟨S7, hS7⟩ : ∃ S7 : ByteArray, S ++ ⟨#[55]⟩ = S7 := ⟨_, rfl⟩
      obtain ⟨T, hT⟩ : ∃ T : ByteArray, S7 ++ E = T := ⟨_, rfl⟩
      have hZT : strZ T = opL ks ++ 55 :: (clL ks ++ []) := by
        rw [← hT, ← hS7, strZ_app, strZ_app, hS, hE, List.append_nil, List.append_assoc]; rfl
      have hTL : T.size = (opL ks).length + 1 + (clL ks).length := by
        rw [← strZ_len, hZT, List.length_append, List.length_cons, List.append_nil]; omega
      have hol : (opL ks).length ≤ 5 * ks.length := opL_len ks
      have hcl : (clL ks).length ≤ 2 * ks.length := clL_len ks
      have hTB : T.size ≤ 900 := by have := HLN.out; have := HNN.out; omega
      have hpr := deepR (strZ T) ks 1000 M 0 [] (.inl rfl) (by have := HLN.out; have := HNN.out; omega) (by rw [List.drop_zero]; exact hZT)
      have hsb : S.size ≤ 1000 := by have := HLN.out; have := HNN.out; omega
      have heb : E.size ≤ 1000 := by have := HLN.out; have := HNN.out; omega
      have h7b : S7.size ≤ 1001 := by rw [← hS7, ByteArray.size_append]; have : (⟨#[55]⟩ : ByteArray).size = 1 := rfl; omega
      have HPR := Lib.hid hpr
      have HTL := Lib.hid hTL
      have HTB := Lib.hid hTB
      have HTS : Hid (S7.size + E.size = T.size) := Lib.hid (by rw [← hT, ByteArray.size_append])
      have HT := Lib.hid hT
      have HS7 := Lib.hid hS7
      have hcv : ∀ W, (convert 9 23 (.string (S7 ++ E))).run Try.prog W = .ok (.slice (some ⟨W.heap.size, 0, none⟩) (S7 ++ E).size (grownCap W (S7 ++ E).size 0 5)) (Lib.bytesWorld W 5 (S7 ++ E)) := fun W => Lib.run_convert_string_bytes W 9 23 5 (S7 ++ E) Try.underlying9 Try.underlying23 Try.underlying5
      clear hS hE hS7 hT hpr hTL hTB hol hcl htl hSL hEL hZT HS HE
      go_upto_region 18 with fail
      simp only [HS7.out]
      obtain ⟨w2, hw2⟩ : ∃ w2, Lib.bytesWorld wr 5 T = w2 := ⟨_, rfl⟩
      have hy2 := (strZ_byt wr T)
      have hb2 := strZ_below wr T
      rw [hw2] at hy2 hb2
      have hsz : w2.heap.size = wr.heap.size + 1 := by rw [← hw2, Lib.bytesWorld_size]
      rw [← hsz] at hy2
      obtain ⟨c2, hc2⟩ : ∃ c2, grownCap wr T.size 0 5 = c2 := ⟨_, rfl⟩
      rw [hc2] at hy2
      have HNEW := Lib.hid (pnewC _ T.size c2 (Y : Int) (strZ T) w2 hy2 (by have := HTB.out; omega) (by have := HYL.out; omega))
      rw [HM.out] at HNEW
      have HB2 := Lib.hid (HB.out.trans (hb2.mono HB.out.size))
      have HW2 := Lib.hid hw2
      have HC2 := Lib.hid hc2
      clear hy2 hb2 hsz hw2 hc2
      go_upto_region 19 with (first
        | (go_at_call 42; (try simp only [HT.out]); (try simp only [HTS.out]); (try simp only [HW2.out]); (try simp only [HC2.out]); go_loud (with_reducible refine HNEW.out.mono ?_); (rintro r w3 ⟨rfl, hx3, hb3⟩); have HX3 := Lib.hid hx3; have HB3 := Lib.hid (HB2.out.trans (hb3.mono HB2.out.size)); clear hx3 hb3))
      have HGW : Hid (w.heap.size ≤ w2.heap.size) := Lib.hid HB2.out.size
      obtain ⟨m, hm⟩ : ∃ m, w2.heap.size + 2 = m := ⟨_, rfl⟩
      obtain ⟨h, hh⟩ : ∃ h, w2.heap.size + 1 = h := ⟨_, rfl⟩
      obtain ⟨g, hg⟩ : ∃ g, w2.heap.size = g := ⟨_, rfl⟩
      rw [hm, hh, hg] at HX3
      rw [hm]
      rw [hg] at HGW
      clear hm hh hg HNEW HW2 HC2
      have HPV := Lib.hid (pValueC 1000 HX3.out HM3.out (by have := HTB.out; omega))
      rw [HPR.out] at HPV
      by_cases hl : ks.length ≤ M
      · rw [if_pos hl] at HPV
        have hlm : ¬ M < i := by have := HLN.out; omega
        simp only [if_neg hlm]
        go_upto_region 20 with (first
          | (go_at_call 43; refine HPV.out.mono ?_; (rintro r w5 ⟨d0, d1, d2, d3, d4, hrr, hob, hx5, ho5⟩); (try dsimp only at hrr hob hx5); subst hrr; obtain ⟨k5, n5, A5, m5, e5, A6, m6, e6, A7, m7, e7, rfl, rfl, rfl, rfl, rfl⟩ := hob.shp; have HO5 := Lib.hid hob; have HX5 := Lib.hid hx5; have HN5 := Lib.hid ho5; clear hob hx5 ho5))
        have hb6 := (Below.refl w5.heap.size w5).alloc (Nat.le_refl _) (.cells #[.int .i64 k5, .int .i64 n5, .slice A5 m5 e5, .slice A6 m6 e6, .slice A7 m7 e7] 27)
        have hn6 := heap_alloc_new w5 (.cells #[.int .i64 k5, .int .i64 n5, .slice A5 m5 e5, .slice A6 m6 e6, .slice A7 m7 e7] 27)
        obtain ⟨w6, hw6⟩ : ∃ w6, w5.alloc (.cells #[.int .i64 k5, .int .i64 n5, .slice A5 m5 e5, .slice A6 m6 e6, .slice A7 m7 e7] 27) = w6 := ⟨_, rfl⟩
        rw [hw6] at hb6 hn6
        rw [hw6]
        have HX6 := Lib.hid (HX5.out.low hb6)
        have HB6 := Lib.hid ((HB3.out.trans (HN5.out.belowB HGW.out (Nat.le_of_lt HX3.out.lx.cu.lt))).trans (hb6.mono (Nat.le_trans HB3.out.size HN5.out.size)))
        have hox := ObR.keep (S' := fun y => y < w6.heap.size) (fun b hb => hb6.block b hb.2) (fun b hb => Nat.lt_of_lt_of_le hb.2 hb6.size) _ HO5.out
        have hdp := depthC _ (nestO ks) (Nat.le_refl _) (by rw [nest_depth]; have := HLN.out; have := HNN.out; omega) _ w6 _ _ _ _ _ hox (fun _ h => h)
        rw [nest_depth, HLN.out] at hdp
        have HDP := Lib.hid hdp
        have n0 := cell_of_row _ _ 0 _ _ (0, 0) hn6
        have n1 := cell_of_row _ _ 1 _ _ (0, 0) hn6
        have n2 := cell_of_row _ _ 2 _ _ (0, 0) hn6
        have n3 := cell_of_row _ _ 3 _ _ (0, 0) hn6
        have n4 := cell_of_row _ _ 4 _ _ (0, 0) hn6
        have hat : ((0 + (opL ks).length + 1 + (clL ks).length : Nat) : Int) = ((S7.size + E.size : Nat) : Int) := by rw [HTS.out, HTL.out]; omega
        have HAT := Lib.hid hat
        clear hb6 hn6 hw6 hox hdp hat
        go_wp2_with (first
          | (go_at_call 45; refine HDP.out.mono ?_; (rintro r w7 ⟨rfl, hb7⟩); have HX7 := Lib.hid (HX6.out.low hb7); have HB7 := Lib.hid (HB6.out.trans (hb7.mono HB6.out.size)); clear hb7)
          | (go_at_call 44; refine (pAtC HX7.out).mono ?_; (rintro r w8 ⟨rfl, rfl⟩); rw [HAT.out]))
        go_ret
        exact ⟨rfl, HB7.out⟩
      · rw [if_neg hl] at HPV
        have hlm : M < i := by have := HLN.out; omega
        simp only [if_pos hlm]
        have hat : ((0 + (opL (ks.take M)).length : Nat) : Int) = ((opL (ks.take M)).length : Int) := by omega
        obtain ⟨V, hV⟩ : ∃ V, (opL (ks.take M)).length = V := ⟨_, rfl⟩
        rw [hV] at HPV hat
        simp only [hV]
        have HAT := Lib.hid hat
        have gV : (V : Int) ≥ 0 := by omega
        clear hat hV hlm
        go_upto_region 20 with (first
          | (go_at_call 43; refine HPV.out.mono ?_; (rintro r w5 ⟨d0, d1, d2, d3, d4, hrr, hob, hx5, ho5⟩); (try dsimp only [noR] at hrr hob hx5); subst hrr; obtain ⟨k5, n5, A5, m5, e5, A6, m6, e6, A7, m7, e7, rfl, rfl, rfl, rfl, rfl⟩ := hob.shp; have HX5 := Lib.hid hx5; have HN5 := Lib.hid ho5; clear hob hx5 ho5))
        have hb6 := (Below.refl w5.heap.size w5).alloc (Nat.le_refl _) (.cells #[.int .i64 k5, .int .i64 n5, .slice A5 m5 e5, .slice A6 m6 e6, .slice A7 m7 e7] 27)
        obtain ⟨w6, hw6⟩ : ∃ w6, w5.alloc (.cells #[.int .i64 k5, .int .i64 n5, .slice A5 m5 e5, .slice A6 m6 e6, .slice A7 m7 e7] 27) = w6 := ⟨_, rfl⟩
        rw [hw6] at hb6
        rw [hw6]
        have HX6 := Lib.hid (HX5.out.low hb6)
        have HB6 := Lib.hid ((HB3.out.trans (HN5.out.belowB HGW.out (Nat.le_of_lt HX3.out.lx.cu.lt))).trans (hb6.mono (Nat.le_trans HB3.out.size HN5.out.size)))
        clear hb6 hw6
        go_wp2_with (first
          | (go_at_call 44; refine (pAtC HX6.out).mono ?_; (rintro r w8 ⟨rfl, rfl⟩); rw [HAT.out]))
        go_ret
        exact ⟨rfl, HB6.out⟩
theorem deep_out (A : Option Addr) (n c : Nat) (x : Int) (w : World) (hn : n ≤ 9223372036854775807) (h : 60 < n) :
    Calls Try.prog 8 #[.slice A n c, .int .u8 x] w fun e w' => e = .returned (.bool true) ∧ Below w.heap.size w w' := by
  have HAW := Lib.hid (awake_any12 w)
  have g1 : (n : Int) > 60 := by omega
  go_enter Try.func8, Try.ntmps8
  go_wp2_with (first
    | (go_at_call 41; refine HAW.out.mono ?_; (rintro e w1 ⟨rfl, hb1⟩)))
  go_ret
  exact ⟨rfl, hb1⟩
theorem deep_walk (A : Option Addr) (n c : Nat) (ks : List Bool) (x : Int) (w : World) (hz : Bls w w.heap.size A n c ks) (hn : n ≤ 9223372036854775807) (lo : 0 ≤ x) (hi : x ≤ 255) :
    Calls Try.prog 8 #[.slice A n c, .int .u8 x] w fun e w' => e = .returned (.bool true) ∧ Below w.heap.size w w' := by
  rcases Nat.lt_or_ge 60 n with h | h
  · exact deep_out A n c x w hn h
  · obtain ⟨X, rfl⟩ : ∃ X : Nat, x = (X : Int) := ⟨x.toNat, by omega⟩
    exact deep_main A n c ks X w hz h (by omega)
set_option maxRecDepth 100000 in
theorem deep_lifted (os : Os) (started : os.Started) (H : Type) (enc : TypeId × Value → H) :
    ReturnsInHanded {} Try.checked os 8 .any (Rows.parseDeepSpec.pre6 enc Try.prog Try.f8 Rows.parseDeepRow.domain false) (Rows.parseDeepSpec.post enc Try.prog Try.f8 false true false false) := by
  refine returnsInHanded_of_change (C := Try.checked) own started (by kernel_rfl) Try.func8
    (ChangeSpec.witness6 (enc := enc) (C := Try.checked) false ⟨#[], #[.slice none 0 0, .int .u8 0], []⟩ 8 (by kernel_rfl) (by kernel_rfl) (by kernel_rfl) (by kernel_rfl)) ?_
  intro W base args ds gs before hval0 hW hcnd _
  have hval : ∀ (j : Nat) t v, Try.f8.params[j]? = some t → args[j]? = some v → Value.okWide Try.prog W .any base t v := hval0
  have hW' := hW
  obtain ⟨p, q, hA0, hV, rfl, hfz, hnd⟩ := hW
  have hA : DataW.TrodAll enc Try.prog W 0 (fun _ => true) true Try.f8.params.toList args.toList ds p := hA0
  rw [Try.params8] at hA hval
  obtain ⟨v0, vs0, d0, ds0, p0, q0, hargs, rfl, rfl, h0, r0⟩ := trodAll_cons hA
  obtain ⟨v1, vs1, d1, ds1, p1, q1, rfl, rfl, rfl, h1, r1⟩ := trodAll_cons r0
  obtain ⟨rfl, rfl, rfl⟩ := trodAll_nil r1
  obtain rfl : args = #[v0, v1] := by cases args; simp_all
  obtain ⟨rfl, rfl⟩ := trodVars_none hV
  obtain ⟨a0, len0, cap0, rfl⟩ := okWide_slice Try.underlying63 (hval 0 63 v0 rfl rfl)
  obtain ⟨zs0, hz0, hcm0⟩ := open_bls h0
  have lt0 : ∀ x ∈ p0, x.block < W.heap.size := by obtain ⟨m, hm⟩ := h0; exact DataW.trod_lt m _ _ _ hm
  obtain ⟨x1, rfl⟩ := okWide_int Try.underlying5 (hval 1 5 v1 rfl rfl)
  obtain ⟨lo1, hi1⟩ := open_intk Try.underlying5 h1
  rw [show IntKind.u8.min = 0 by decide] at lo1
  rw [show IntKind.u8.max = 255 by decide] at hi1
  have lt1 : ∀ x ∈ p1, x.block < W.heap.size := by obtain ⟨m, hm⟩ := h1; exact DataW.trod_lt m _ _ _ hm
  have hmx : maxLen = 9223372036854775807 := by decide
  clear hA0 hval0
  refine (deep_walk a0 len0 cap0 zs0 x1 W hz0 (by have := hz0.cap; omega) lo1 hi1).mono fun e W' ⟨he, bel⟩ => ?_
  subst he
  exact ⟨_, rfl, _, _, _, [], _, [], hW', trodAll_mk1 (shut_bool Try.underlying4 _), (trodAll_cons_mk (Below.trod laidOut (by kernel_rfl) (of_decide_eq_true (by kernel_rfl)) h0 bel lt0) (trodAll_cons_mk (Below.trod laidOut (by kernel_rfl) (of_decide_eq_true (by kernel_rfl)) h1 bel lt1) trodAll_mk0)), rfl, bel.frame _, fun h => by cases h⟩
/-- ParseDeep: it answers true. -/
theorem deep_holds : Rows.ParseDeepSaid :=
  OpenClaim.holds_of_wide 8 Try.f8 rfl rfl rfl rfl rfl rfl rfl ⟨rfl, rfl, rfl, rfl, rfl⟩ rfl rfl rfl rfl rfl (by kernel_rfl) Try.func8 (by kernel_rfl)
    (of_decide_eq_true (by kernel_rfl)) (by unfold Func.isWrapper; first | (rw [if_pos (by decide +kernel)]; kernel_rfl) | (rw [if_neg (by decide +kernel)]; exact ⟨rfl, rfl⟩))
    (fun os started H enc _ => deep_lifted os started H enc)
#print axioms deep_holds
end Go.Proofs.Ytnlpdnimfaipmaa
