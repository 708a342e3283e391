/- AsciiSigns: what is written has no other signs than it may, and is as long as is said; digits of either case are read alike. No condition on the input. -/
import Derived.Test.YtnonldlddgankaaLaw6Do
namespace Go.Proofs.Ytnonldlddgankaa
open Go.ChangeShapes Go.WideShapes Go.ChangeAt Go.RowKit Go.Deep
set_option linter.unusedVariables false
set_option maxRecDepth 100000

/-- One byte of a row of one's own is written. -/
theorem Mine.put6 {w : World} {base p : Nat} {b c : Nat} {zs : List Int} (h : Mine w base (.slice (some ⟨b, 0, none⟩) p c) p zs) (i : Nat) (z : Int) (hi : i < p) (hz : 0 ≤ z ∧ z < 256) :
    Mine (w.setCell ⟨b, i, none⟩ (.int .u8 z)) base (.slice (some ⟨b, 0, none⟩) p c) p (zs.set i z) := by
  refine ⟨⟨by simpa using h.own.1, ?_⟩, fun y hy => ?_⟩
  · rcases h.own.2 with ⟨h0, _⟩ | ⟨g, cap, cur, e, hb, hh, hnc, hmx, hsz, htk⟩
    · cases h0
    · injection e with e1 e2 e3
      injection e1 with e1
      injection e1 with e1
      subst e1 e3
      refine .inr ⟨b, c, cur.set! i (.int .u8 z), rfl, hb, ?_, hnc, hmx, by simpa using hsz, ?_⟩
      · simp [World.setCell, Array.getElem?_modify, hh]
      · rw [List.map_set, ← htk]
        simp [List.take_set]
  · rcases List.mem_or_eq_of_mem_set hy with hy | rfl
    · exact h.rng y hy
    · exact hz
theorem Mine.block6 {w : World} {base p : Nat} {v : Value} {zs : List Int} (h : Mine w base v p zs) (hp : 0 < p) : ∃ b c, v = .slice (some ⟨b, 0, none⟩) p c ∧ base ≤ b ∧ b < w.heap.size ∧ (∀ i, w.frozen? ⟨b, i, none⟩ = false) ∧ ∀ i, i < p → w.cell? ⟨b, i, none⟩ = some (.int .u8 (zs.getD i 0)) := by
  have hlt := fun b hb => h.lt b hb
  obtain ⟨A, c2, e2, hby⟩ := h.byt
  rcases h.own.2 with ⟨rfl, h0⟩ | ⟨b, cap, cur, rfl, hb, hh, hnc, _⟩
  · omega
  · refine ⟨b, cap, rfl, hb, hlt b rfl, fun i => by simp [World.frozen?, hh], fun i hi => ?_⟩
    injection e2 with e2
    subst e2
    obtain ⟨b', o, e, _, hc⟩ := hby.cell hp
    injection e with e
    injection e with e3 e4
    subst e3 e4
    have := hc i hi
    rwa [Nat.zero_add] at this


theorem str_of7 (w : World) (B : Nat) (A : Option Addr) (n c : Nat) (zs : List Int) (h : Byt w B A n c zs) (hn : 0 < n) : (convert 23 9 (.slice A n c)).run Try.prog w = .ok (.string (strOfNums zs)) w := by
  obtain ⟨b, o, rfl, _, hc⟩ := h.cell hn
  exact run_convert_bytes_arg (P := Try.prog) w 23 5 Try.underlying23 Try.underlying5 b o n c zs h.len hc 9 Try.underlying9
/-- A digit in the other case. -/
def upc (c : Int) : Int := if 97 ≤ c then c - 32 else c
theorem upc_ok (c : Int) (h1 : 48 ≤ c) (h2 : c ≤ 102) (h3 : ¬ (65 ≤ c ∧ c ≤ 70)) (h4 : 0 ≤ dgZ c) : dgZ (upc c) = dgZ c ∧ whB (upc c) = false ∧ upc c ≠ 62 := by
  have hc : (48 ≤ c ∧ c ≤ 57) ∨ (97 ≤ c ∧ c ≤ 102) := by
    rcases dg_cases c with ⟨a, b, _⟩ | ⟨a, b, _⟩ | ⟨a, b, _⟩ | ⟨e, _⟩ <;> omega
  rcases hc with ⟨a, b⟩ | ⟨a, b⟩
  · unfold upc
    rw [if_neg (by omega)]
    refine ⟨rfl, ?_, by omega⟩
    unfold whB; simp; omega
  · unfold upc
    rw [if_pos a]
    refine ⟨?_, ?_, by omega⟩
    · unfold dgZ
      rw [if_neg (by omega), if_neg (by omega), if_pos (by omega), if_neg (by omega), if_pos (by omega)]
      omega
    · unfold whB; simp; omega
/-- The row, so many digits turned. -/
def upK (X : List Int) (k : Nat) : List Int := (X.take k).map upc ++ X.drop k
theorem upK_len (X : List Int) (k : Nat) (h : k ≤ X.length) : (upK X k).length = X.length := by
  unfold upK; rw [List.length_append, List.length_map, List.length_take, List.length_drop]; omega
theorem upK_at (X : List Int) (k : Nat) (h : k < X.length) : (upK X k).getD k 0 = X.getD k 0 := by
  have hl : ((X.take k).map upc).length = k := by rw [List.length_map, List.length_take]; omega
  unfold upK List.getD
  rw [List.getElem?_append_right (by omega), hl, Nat.sub_self, drop_atZ X k h]
  rfl
theorem upK_set (X : List Int) (k : Nat) (h : k < X.length) : upK X (k + 1) = (upK X k).set k (upc (X.getD k 0)) := by
  have hl : ((X.take k).map upc).length = k := by rw [List.length_map, List.length_take]; omega
  unfold upK
  rw [take_snocZ X k h, List.map_append, drop_atZ X k h, List.set_append_right _ _ (by omega), hl, Nat.sub_self, List.set_cons_zero, List.append_assoc]
  rfl
theorem upK_same (X : List Int) (k : Nat) (h : k < X.length) (hc : ¬ 97 ≤ X.getD k 0) : upK X (k + 1) = upK X k := by
  rw [upK_set X k h]
  have e : upc (X.getD k 0) = (upK X k).getD k 0 := by rw [upK_at X k h]; unfold upc; rw [if_neg hc]
  rw [e]
  have hk : k < (upK X k).length := by rw [upK_len X k (by omega)]; exact h
  rw [getD_eq _ k hk]
  exact List.set_getElem_self hk
set_option maxHeartbeats 8000000 in
theorem signs_walk (A : Option Addr) (n c : Nat) (zs : List Int) (w : World) (hb : Byt w w.heap.size A n c zs) (hn : n ≤ 9223372036854775807) :
    Calls Try.prog 7 #[.slice A n c] w fun e w' => e = .returned (.bool true) ∧ Below w.heap.size w w' := by
  have HAW := Lib.hid (awake_any w)
  by_cases hok : n ≤ 500
  · have HB := Lib.hid (fun W (hW : Below w.heap.size w W) => (hb.below hW (Nat.le_refl _)).more hW.size)
    have hlen := hb.len
    have hni : ¬ (500 : Int) < n := by omega
    have H1 := Lib.hid (fun W (hW : Byt W W.heap.size A n c zs) => pHex A n c zs W hW (by omega))
    have H3 := Lib.hid (fun W (hW : Byt W W.heap.size A n c zs) => pBase85 A n c zs W hW (by omega))
    have hl1 : (hexS zs).length = 2 * n + 1 := by unfold hexS; rw [List.length_append, hxB_len, hlen]; rfl
    have hl2 := b85S_len zs
    rw [hlen] at hl2
    have hxr : ∀ k, k < 2 * n → 48 ≤ (hexS zs).getD k 0 ∧ (hexS zs).getD k 0 ≤ 102 ∧ 0 ≤ dgZ ((hexS zs).getD k 0) ∧ ¬ (65 ≤ (hexS zs).getD k 0 ∧ (hexS zs).getD k 0 ≤ 70) := fun k hk => by
      have hkl : k < (hxB zs).length := by rw [hxB_len, hlen]; exact hk
      have e : (hexS zs).getD k 0 = (hxB zs)[k] := by unfold hexS; simp [List.getD, List.getElem?_append, hkl]
      rw [e]
      have := hxB_rng zs hb.rng _ (List.getElem_mem hkl)
      exact ⟨this.1, this.2.1, this.2.2.2.1, this.2.2.2.2⟩
    have hxe : (hexS zs).getD (2 * n) 0 = 62 := by
      have hkl : (hxB zs).length = 2 * n := by rw [hxB_len, hlen]
      unfold hexS
      simp [List.getD, hkl]
    obtain ⟨j, hj⟩ : ∃ j, (b85S zs).length = j + 2 := ⟨(b85S zs).length - 2, by omega⟩
    have hgj : (b85G zs ((zs.length + 3) / 4)).length = j := by
      have e : (b85S zs).length = (b85G zs ((zs.length + 3) / 4)).length + 2 := by unfold b85S; simp only [List.length_append, List.length_cons, List.length_nil]
      omega
    have hyr : ∀ k, k < j → (33 ≤ (b85S zs).getD k 0 ∧ (b85S zs).getD k 0 ≤ 117) ∨ (b85S zs).getD k 0 = 122 := fun k hk => by
      have hkl : k < (b85G zs ((zs.length + 3) / 4)).length := by omega
      have e : (b85S zs).getD k 0 = (b85G zs ((zs.length + 3) / 4))[k] := by unfold b85S; simp [List.getD, List.getElem?_append, hkl]
      rw [e]
      exact b85G_rng zs _ _ (List.getElem_mem hkl)
    have hye : ((b85S zs).drop j).take 2 = [126, 62] := by
      unfold b85S
      rw [List.drop_append_of_le_length (by omega), List.drop_of_length_le (by omega)]
      rfl
    have hup : upK (hexS zs) (2 * n) = (hxB zs).map upc ++ 62 :: [] := by
      have hkl : (hxB zs).length = 2 * n := by rw [hxB_len, hlen]
      unfold upK hexS
      rw [List.take_append_of_le_length (by omega), List.take_of_length_le (by omega), List.drop_append_of_le_length (by omega), List.drop_of_length_le (by omega)]
      rfl
    have hun := unhx_back n zs [] [] hb.rng upc (fun c h1 h2 h3 h4 => upc_ok c h1 h2 h3 h4) (Nat.zero_le _)
    rw [← hup, List.length_nil, Nat.zero_add, hlen, if_neg (by omega), List.nil_append] at hun
    have HUN : Hid (∀ (W : World) (A : Option Addr) (c : Nat), Byt W W.heap.size A (2 * n + 1) c (upK (hexS zs) (2 * n)) → Calls Try.prog 9 #[.slice A (2 * n + 1) c, .int .i64 n] W fun r w' => ∃ A c, r = .returned (.tuple #[.slice A n c, .int .i64 0]) ∧ Byt w' w'.heap.size A n c zs ∧ Below W.heap.size W w') := Lib.hid (fun W A c hW => by
      refine (pUnhex A (2 * n + 1) c n (upK (hexS zs) (2 * n)) W hW (by omega) (by omega) (by omega) (zs, 0) (by
        rw [show (max (n : Int) 0).toNat = n by omega]
        exact hun)).mono ?_
      rintro r w' ⟨A', c', rfl, hy, hb⟩
      dsimp only at hy ⊢
      rw [hlen] at hy ⊢
      exact ⟨A', c', rfl, hy, hb⟩)
    obtain ⟨X, hX⟩ : ∃ X, hexS zs = X := ⟨_, rfl⟩
    obtain ⟨Y, hY⟩ : ∃ Y, b85S zs = Y := ⟨_, rfl⟩
    rw [hX] at H1 hl1 hxr hxe HUN
    rw [hY] at H3 hl2 hyr hye hj
    rw [hl1] at H1
    rw [hj] at H3 hl2
    have HXR := Lib.hid hxr
    have HXE := Lib.hid hxe
    have HYR := Lib.hid hyr
    have HYE := Lib.hid hye
    have HXL := Lib.hid hl1
    have HYL := Lib.hid hj
    have HLEN := Lib.hid hlen
    have HCP := Lib.hid (fun W A c (hW : Byt W W.heap.size A (2 * n + 1) c X) => refCopy A (2 * n + 1) c X W hW (by omega))
    obtain ⟨hj2, hj7⟩ := hl2
    have hd4 : ((n : Int)).tdiv 4 = ((n / 4 : Nat) : Int) := by rw [Int.tdiv_eq_ediv_of_nonneg (by omega)]; omega
    have hd4b : ((n : Int)) / 4 = ((n / 4 : Nat) : Int) := by omega
    obtain ⟨m4, hm4⟩ : ∃ m4, n / 4 = m4 := ⟨_, rfl⟩
    rw [hm4] at hj7 hd4 hd4b
    have hj7i : (j : Int) + 2 ≤ m4 * 5 + 7 := by omega
    have hm4b : (m4 : Int) ≤ 1000 := by omega
    have hjb : j ≤ 2000 := by omega
    have hjbi : (j : Int) ≤ 2000 := by omega
    clear hb hX hY hok hl1 hxr hxe hyr hye hup hun hgj hj hlen hm4
    go_enter Try.func7, Try.ntmps7
    go_wp2_with (first
      | (go_at_call 8; refine HAW.out.mono ?_; (rintro r w0 ⟨rfl, hb0⟩); have HB0 := Lib.hid hb0; clear hb0)
      | (go_at_call 12; refine (H1.out _ (HB.out _ HB0.out)).mono ?_; (rintro r w1 ⟨v1, rfl, hm1, hb1⟩); obtain ⟨A1, c1, rfl, hy1⟩ := hm1.byt; have HY1 := Lib.hid hy1; have HB1 := Lib.hid (HB0.out.trans (hb1.mono HB0.out.size)); clear hm1 hb1 hy1)
      | (go_at_call 13; refine (H3.out _ (HB.out _ HB1.out)).mono ?_; (rintro r w2 ⟨v2, rfl, hm2, hb2⟩); obtain ⟨A2, c2, rfl, hy2⟩ := hm2.byt; have HY1b := Lib.hid ((HY1.out.below hb2 (Nat.le_refl _)).more hb2.size); have HY2 := Lib.hid hy2; have HB2 := Lib.hid (HB1.out.trans (hb2.mono HB1.out.size)); clear hm2 hb2 hy2)
      | (go_at_call 22; refine (HCP.out _ _ _ HY1b.out).mono ?_; (rintro r w3 ⟨v3, rfl, hm3, hb3⟩); obtain ⟨b3, c3, rfl, hlo3, hlt3, _, _⟩ := hm3.block6 (by omega); have HM3 := Lib.hid hm3; have HY1c := Lib.hid (HY1b.out.below hb3 (Nat.le_refl _)); have HY2b := Lib.hid (HY2.out.below hb3 (Nat.le_refl _)); have HLO3 := Lib.hid hlo3; have HLT3 := Lib.hid hlt3; have HB3 := Lib.hid (HB2.out.trans (hb3.mono HB2.out.size)); clear hm3 hb3 hlo3 hlt3))
    clear hd4 hd4b hj7 hj7i hm4b
    go_loopw [6] (fun iv wr => ∃ k : Nat, k ≤ 2 * n ∧ iv = .int .i64 k ∧ Hid (Mine wr w2.heap.size (.slice (some ⟨b3, 0, none⟩) (2 * n + 1) c3) (2 * n + 1) (upK X k)) ∧ Hid (Only b3 w3 wr)) (fun iv _ => 2 * n - (intOf iv).toNat)
    case atStart => exact ⟨0, Nat.zero_le _, rfl, by unfold upK; simpa using HM3, Lib.hid (Only.refl _ _)⟩
    case round =>
      obtain ⟨k, hk, rfl, HM, HO⟩ := hrel
      have hm := HM.out
      obtain ⟨b4, c4, e4, _, hlt4, hfr, hcu⟩ := hm.block6 (by omega)
      injection e4 with e4 e5 e6
      injection e4 with e4
      injection e4 with e4
      subst e4 e6
      by_cases hlt : k < 2 * n
      · have hx := HXR.out k hlt
        have hat := upK_at X k (by rw [HXL.out]; omega)
        have hset := upK_set X k (by rw [HXL.out]; omega)
        have hsame := upK_same X k (by rw [HXL.out]; omega)
        have cu := hcu k (by omega)
        rw [hat] at cu
        have hy1 := HY1c.out.only HO.out HLO3.out (Nat.le_of_lt HLT3.out)
        obtain ⟨b5, o5, rfl, _, hc5⟩ := hy1.cell (by omega)
        have ck := hc5 k (by omega)
        have fk := hfr k
        obtain ⟨z, hz⟩ : ∃ z, X.getD k 0 = z := ⟨_, rfl⟩
        rw [hz] at hx cu ck hset hsame
        obtain ⟨z0, z1, z2, z3⟩ := hx
        have HDG := Lib.hid (fun W => pdigit z W)
        obtain ⟨d, hd⟩ : ∃ d, dgZ z = d := ⟨_, rfl⟩
        rw [hd] at HDG z2
        have hki : (k : Int) < 2 * n := by omega
        have HPUT := Lib.hid (fun y (hy : 0 ≤ y ∧ y < 256) => hm.put6 k y (by omega) hy)
        have HSET := Lib.hid hset
        have HSAME := Lib.hid hsame
        by_cases h97 : 97 ≤ z
        · have hz32 : IntKind.u8.wrap (z - 32) = z - 32 := by rw [IntKind.wrap_u8]; omega
          have h65 : ¬ z ≤ 70 := by omega
          have HUP : Hid (upc z = z - 32) := Lib.hid (by unfold upc; rw [if_pos h97])
          clear hy1 hc5 hz hd hcu hfr hset hsame hat hm z3
          go_wp2_with (go_at_call 15; refine (HDG.out _).mono ?_; (rintro r w4 ⟨rfl, rfl⟩))
          go_roundw
          case rel => exact ⟨k + 1, hlt, by go_num, Lib.hid (by rw [HSET.out, HUP.out]; exact HPUT.out _ (by omega)), Lib.hid (HO.out.set_ _ _)⟩
          case measure => simp [intOf]; omega
        · have hlow : z < 65 ∨ 70 < z := by omega
          clear hy1 hc5 hz hd hcu hfr hset hat hm z3
          rcases hlow with hlow | hlow
          all_goals
            go_wp2_with (go_at_call 15; refine (HDG.out _).mono ?_; (rintro r w4 ⟨rfl, rfl⟩))
            go_roundw
            case rel => exact ⟨k + 1, hlt, by go_num, Lib.hid (by rw [HSAME.out h97]; exact HM.out), HO⟩
            case measure => simp [intOf]; omega
      · obtain rfl : k = 2 * n := by omega
        have hy1 := HY1c.out.only HO.out HLO3.out (Nat.le_of_lt HLT3.out)
        have hy2 := HY2b.out.only HO.out HLO3.out (Nat.le_of_lt HLT3.out)
        obtain ⟨A6, c6, e6, hyu⟩ := hm.byt
        injection e6 with e7 e8 e9
        subst e7 e9
        have HYU := Lib.hid hyu
        have HY1w := Lib.hid hy1
        have HY2w := Lib.hid hy2
        have HBW := Lib.hid (HB3.out.trans (HO.out.belowB (Nat.le_trans HB2.out.size HLO3.out) (Nat.le_of_lt HLT3.out)))
        clear hy1 hy2 hyu hm hcu hfr hlt
        go_wp2_with fail
        go_loop [7] (fun iv => ∃ k : Nat, k ≤ j ∧ iv = .int .i64 k) (fun iv => j - (intOf iv).toNat)
        case atStart => exact ⟨0, Nat.zero_le _, rfl⟩
        case round =>
          obtain ⟨k, hk, rfl⟩ := hrel
          by_cases hlt : k < j
          · have hy := HYR.out k hlt
            obtain ⟨b5, o5, rfl, _, hc5⟩ := HY2w.out.cell (by omega)
            have ck := hc5 k (by omega)
            obtain ⟨y, hyy⟩ : ∃ y, Y.getD k 0 = y := ⟨_, rfl⟩
            rw [hyy] at ck hy
            have hkj : (k : Int) < j := by omega
            clear hc5 hyy
            rcases hy with ⟨y0, y1⟩ | rfl
            · have h122 : (y == 122) = false := beq_eq_false_iff_ne.2 (by omega)
              go_wp2_with fail
              go_round
              case rel => exact ⟨k + 1, hlt, by go_num⟩
              case measure => simp [intOf]; omega
            · go_wp2_with fail
              go_round
              case rel => exact ⟨k + 1, hlt, by go_num⟩
              case measure => simp [intOf]; omega
          · obtain rfl : k = j := by omega
            have hs2w : w2.heap.size ≤ wr.heap.size := by have := HLO3.out; have := HLT3.out; have := HO.out.size; omega
            have HS2W := Lib.hid hs2w
            have hcut : ∀ W, (Instr.slice 23 (.slice A2 (k + 2) c2) (some (.int .i64 (k : Int))) none none).run Try.prog W = .ok (.slice (cutA A2 c2 k) 2 (c2 - k)) W := fun W => by
              have := run_cutR (P := Try.prog) W 23 5 Try.underlying23 (fun w => by kernel_rfl) A2 (k + 2) c2 k (by omega) (by have := HY2w.out.cap; omega)
              rw [Nat.add_sub_cancel_left] at this
              exact this
            have hwk : (k : Int) + 2 - 2 = k := by omega
            have hwk2 : IntKind.i64.wrap (k : Int) = k := IntWalk.i64_in _ (by omega)
            clear hs2w
            go_wp2_with (first
              | (go_at_call 9; refine (HUN.out _ _ _ HYU.out).mono ?_; (rintro r w5 ⟨A5, c5, rfl, hy5, hb5⟩); have hbw5 := HBW.out.trans (hb5.mono HBW.out.size); have HBW5 := Lib.hid hbw5; have HSM := Lib.hid (refSame_yes A5 A n c5 _ c _ zs w5 hy5 (HB.out _ hbw5) (by omega)); have hv1 := HY1w.out.below hb5 HS2W.out; have hv2 := HY2w.out.below hb5 HS2W.out; have HV1 := Lib.hid hv1; have HV2 := Lib.hid hv2; clear hy5 hb5 hbw5 hv1 hv2)
              | (go_at_call 11; refine HSM.out.mono ?_; (rintro r w6 ⟨rfl, q6, rfl⟩); obtain ⟨b1, o1, rfl, _, hc1⟩ := (HV1.out.drewN q6).cell (by omega); have ck1 := hc1 (2 * n) (by omega); rw [HXE.out] at ck1; have hcv := str_of7 (w5.drewN q6) _ _ 2 (c2 - k) _ ((HV2.out.drewN q6).cut (l := k) (m := 2) (by omega)) (by omega); rw [HYE.out, show strOfNums [126, 62] = ⟨#[126, 62]⟩ from rfl] at hcv; clear hc1))
            go_ret
            exact ⟨rfl, below_drewN HBW5.out _⟩
  · have hni : (500 : Int) < n := by omega
    go_enter Try.func7, Try.ntmps7
    go_wp2_with (go_at_call 8; refine HAW.out.mono ?_; (rintro r w0 ⟨rfl, hb0⟩); have HB0 := Lib.hid hb0; clear hb0)
    go_ret
    exact ⟨rfl, HB0.out⟩
set_option maxRecDepth 100000 in
theorem signs_lifted (os : Os) (started : os.Started) (H : Type) (enc : TypeId × Value → H) :
    ReturnsInHanded {} Try.checked os 7 .any (Rows.asciiSignsSpec.pre6 enc Try.prog Try.f7 Rows.asciiSignsRow.domain false) (Rows.asciiSignsSpec.post enc Try.prog Try.f7 false true false false) := by
  refine returnsInHanded_of_change (C := Try.checked) own started (by kernel_rfl) Try.func7
    (ChangeSpec.witness6 (enc := enc) (C := Try.checked) false ⟨#[], #[.slice none 0 0], []⟩ 8 (by kernel_rfl) (by kernel_rfl) (by kernel_rfl) (by kernel_rfl)) ?_
  intro W base args ds gs before hval0 hW hcnd _
  have hval : ∀ (j : Nat) t v, Try.f7.params[j]? = some t → args[j]? = some v → Value.okWide Try.prog W .any base t v := hval0
  have hW' := hW
  obtain ⟨p, q, hA0, hV, rfl, hfz, hnd⟩ := hW
  have hA : DataW.TrodAll enc Try.prog W 0 (fun _ => true) true Try.f7.params.toList args.toList ds p := hA0
  rw [Try.params7] at hA hval
  obtain ⟨v0, vs0, d0, ds0, p0, q0, hargs, rfl, rfl, h0, r0⟩ := trodAll_cons hA
  obtain ⟨rfl, rfl, rfl⟩ := trodAll_nil r0
  obtain rfl : args = #[v0] := by cases args; simp_all
  obtain ⟨rfl, rfl⟩ := trodVars_none hV
  obtain ⟨a0, len0, cap0, rfl⟩ := okWide_slice Try.underlying23 (hval 0 23 v0 rfl rfl)
  obtain ⟨zs0, hz0, hcm0⟩ := open_bytes h0 (fun _ => rfl)
  have lt0 : ∀ x ∈ p0, x.block < W.heap.size := by obtain ⟨m, hm⟩ := h0; exact DataW.trod_lt m _ _ _ hm
  have hmx : maxLen = 9223372036854775807 := by decide
  clear hA0 hval0
  refine (signs_walk a0 len0 cap0 zs0 W hz0 (by have := hz0.cap; omega)).mono fun e W' ⟨he, bel⟩ => ?_
  subst he
  exact ⟨_, rfl, _, _, _, [], _, [], hW', trodAll_mk1 (shut_bool Try.underlying4 _), (trodAll_cons_mk (Below.trod laidOut (by kernel_rfl) (of_decide_eq_true (by kernel_rfl)) h0 bel lt0) trodAll_mk0), rfl, bel.frame _, fun h => by cases h⟩

/-- AsciiSigns: it answers true. -/
theorem signs_holds : Rows.AsciiSignsSaid :=
  OpenClaim.holds_of_wide 7 Try.f7 rfl rfl rfl rfl rfl rfl rfl ⟨rfl, rfl, rfl, rfl, rfl⟩ rfl rfl rfl rfl rfl (by kernel_rfl) Try.func7 (by kernel_rfl)
    (of_decide_eq_true (by kernel_rfl)) (by unfold Func.isWrapper; first | (rw [if_pos (by decide +kernel)]; kernel_rfl) | (rw [if_neg (by decide +kernel)]; exact ⟨rfl, rfl⟩))
    (fun os started H enc _ => signs_lifted os started H enc)
#print axioms signs_holds

end Go.Proofs.Ytnonldlddgankaa
