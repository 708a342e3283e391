/- CursorPieces answers true, whatever the bytes and the numbers. No condition on the input. -/
import Derived.Test.YtffmdlknkimlhaaOwn
import Derived.Test.YtffmdlknkimlhaaPlays
namespace Go.Proofs.Ytffmdlknkimlhaa
open Go.ChangeShapes Go.WideShapes Go.ChangeAt Go.RowKit
set_option linter.unusedVariables false

theorem take_add (zs : List Int) (p m : Nat) : zs.take p ++ (zs.drop p).take m = zs.take (p + m) := by
  rw [List.take_add]

/-- Where both cursors stand, what has been got. -/
structure PSt (w0 : World) (g h base n c p : Nat) (A : Option Addr) (zs : List Int) (v : Value) (wr : World) : Prop where
  cg : Cur wr g A n c p
  ch : Cur wr h A n c p
  mine : Mine wr base v p (zs.take p)
  bel : Below w0.heap.size w0 wr
  size : base ≤ wr.heap.size

/-- The places of the blocks. -/
structure PPl (w0 : World) (g h base : Nat) : Prop where
  g0 : w0.heap.size ≤ g
  gh : g < h
  hb : h < base

set_option maxRecDepth 100000 in
set_option maxHeartbeats 2000000 in
theorem pieces_walk (A : Option Addr) (n c : Nat) (zs : List Int) (A2 : Option Addr) (ln c2 : Nat) (ys : List Int) (w : World) (hb : Byt w w.heap.size A n c zs) (hd : Byt w w.heap.size A2 ln c2 ys) (hn : n ≤ 9223372036854775807) (hln : ln ≤ 9223372036854775807) :
    Calls Try.prog 7 #[.slice A n c, .slice A2 ln c2] w fun e w' => e = .returned (.bool true) ∧ Below w.heap.size w w' := by
  have HAW := Lib.hid (awake_any w)
  have HB := Lib.hid hb
  have HD := Lib.hid hd
  clear hb hd
  by_cases h1 : 500 < n
  · go_enter Try.func7, Try.ntmps7
    go_wp2_with (go_at_call 8; refine HAW.out.mono ?_; rintro e w1 ⟨rfl, hb1⟩)
    go_ret
    exact ⟨rfl, hb1⟩
  by_cases h2 : 100 < ln
  · go_enter Try.func7, Try.ntmps7
    go_wp2_with (go_at_call 8; refine HAW.out.mono ?_; rintro e w1 ⟨rfl, hb1⟩)
    go_ret
    exact ⟨rfl, hb1⟩
  go_enter Try.func7, Try.ntmps7
  go_wp2_with (first
    | (go_at_call 8; refine HAW.out.mono ?_; rintro e w1 ⟨rfl, hb1⟩)
    | (go_at_call 9; refine (new_cur A n c w1).mono ?_; rintro e w2 ⟨rfl, hcur1, hbel2⟩)
    | (go_at_call 9; refine (new_cur A n c w2).mono ?_; rintro e w3 ⟨rfl, hcur2, hbel3⟩))
  have b1 := hb1.trans (hbel2.mono hb1.size)
  have b2 := b1.trans (hbel3.mono b1.size)
  have HBB := Lib.hid (HB.out.below b2 (Nat.le_refl _))
  have HDD := Lib.hid (HD.out.below b2 (Nat.le_refl _))
  have HPL : Hid (PPl w w1.heap.size w2.heap.size w3.heap.size) := Lib.hid ⟨hb1.size, hcur1.lt, hcur2.lt⟩
  have HST : Hid (PSt w w1.heap.size w2.heap.size w3.heap.size n c 0 A zs (.slice none 0 0) w3) := Lib.hid ⟨hcur1.below hbel3 hcur1.lt, hcur2, Mine.nil _ _, b2, Nat.le_refl _⟩
  clear b1 b2 hcur1 hcur2 hb1 hbel2 hbel3
  go_loopw [7, 8] (fun v i wr => ∃ k p : Nat, k ≤ ln ∧ i = .int .i64 k ∧ p ≤ n ∧ PSt w w1.heap.size w2.heap.size w3.heap.size n c p A zs v wr) (fun _ i _ => ln - (intOf i).toNat)
  case atStart => exact ⟨0, 0, Nat.zero_le _, rfl, Nat.zero_le _, HST.out⟩
  case round =>
    obtain ⟨k, p, hk, rfl, hp, hst⟩ := hrel
    obtain ⟨g, hg⟩ : ∃ g, g = w1.heap.size := ⟨_, rfl⟩
    have hgh := HPL.out.gh
    have hg0 := HPL.out.g0
    have hhb := HPL.out.hb
    by_cases hlt : k < ln
    · obtain ⟨b, o, rfl, _, hc⟩ := (HD.out.below hst.bel (Nat.le_refl _)).cell (by omega)
      have hck := hc k hlt
      obtain ⟨z, hzz⟩ : ∃ z, ys.getD k 0 = z := ⟨_, rfl⟩
      have hz := HD.out.getD k
      rw [hzz] at hck hz
      obtain ⟨z0, z1⟩ := hz
      obtain ⟨m, hm⟩ : ∃ m : Nat, z % 9 = m := ⟨(z % 9).toNat, by omega⟩
      have hm8 : m ≤ 8 := by omega
      have HCG := Lib.hid hst.cg
      have HCH := Lib.hid hst.ch
      have HMI := Lib.hid hst.mine
      have HBE := Lib.hid hst.bel
      have HSZ := Lib.hid hst.size
      have HBW := Lib.hid (HB.out.below hst.bel (Nat.le_refl _))
      clear hzz hc hst hg
      by_cases hfit : p + m ≤ n
      · by_cases hw : 1 ≤ m ∧ m ≤ 7
        · obtain ⟨hw1, hw7⟩ := hw
          obtain ⟨nv, hnv⟩ : ∃ nv, numZ ((zs.drop p).take m) = nv := ⟨_, rfl⟩
          have HNV := Lib.hid hnv
          clear hnv
          go_wp2_with (first
            | (go_at_call 16; refine (pos_any _ n c p A wr HCG.out).mono ?_; rintro e w' ⟨rfl, rfl⟩)
            | (go_at_call 23; refine (take_in _ n c p m _ A zs wr HCG.out HBW.out hfit (by omega) hg0).mono ?_; rintro e w4 ⟨A4, c4, rfl, hby4, hfr4, hcg4, ho4⟩; have hch4 := HCH.out.only ho4 (Nat.ne_of_gt hgh); have hbw4 := HBW.out.only ho4 hg0 (Nat.le_of_lt HCG.out.lt))
            | (go_at_call 24; refine (word_in _ n c p m _ A zs w4 hch4 hbw4 (Nat.le_trans hg0 (Nat.le_of_lt hgh)) hw1 hw7 hfit (by omega)).mono ?_; rw [HNV.out]; rintro e w5 ⟨rfl, hch5, ho5⟩; have hby5 := hby4.onlyF ho5 hfr4 HCH.out.lt (Nat.le_refl _); have hmi5 := (HMI.out.only ho4 (Nat.lt_trans hgh hhb)).only ho5 hhb; have hcg5 := hcg4.only ho5 (Nat.ne_of_lt hgh))
            | (go_at_call 25; refine (refNumber A4 m c4 _ _ w5 hby5 hw7).mono ?_; rw [HNV.out]; rintro e w' ⟨rfl, rfl⟩)
            | (at_builtin; have hsz5 := Nat.le_trans (Nat.le_trans HSZ.out ho4.size) ho5.size; obtain ⟨v6, w6, hrun, hmi6, hbe6⟩ := hmi5.append hby5 25 (by omega) hsz5; refine Lib.wpList_append_run_sl _ rfl (.tmp 102) (.tmp 103) 25 rfl _ _ rfl rfl hrun ?_; clear hrun; have hcg6 := hcg5.below hbe6 (Nat.lt_trans hgh hhb); have hch6 := hch5.below hbe6 hhb)
            | (go_at_call 16; refine (pos_any _ n c (p + m) A w6 hcg6).mono ?_; rintro e w' ⟨rfl, rfl⟩)
            | (go_at_call 26; refine (seek_in _ n c (p + m) (p + m) A w6 hch6 hfit (by omega)).mono ?_; rintro e w7 ⟨rfl, hch7, ho7⟩))
          have hbel : Below w.heap.size w w7 := (((HBE.out.trans (ho4.belowB hg0 (Nat.le_of_lt HCG.out.lt))).trans (ho5.belowB (Nat.le_trans hg0 (Nat.le_of_lt hgh)) (Nat.le_of_lt hch4.lt))).trans (hbe6.mono (Nat.le_trans hg0 (Nat.le_of_lt (Nat.lt_trans hgh hhb))))).trans (ho7.belowB (Nat.le_trans hg0 (Nat.le_of_lt hgh)) (Nat.le_of_lt hch6.lt))
          have hmi7 := hmi6.only ho7 hhb
          rw [take_add] at hmi7
          have hst7 : PSt w w1.heap.size w2.heap.size w3.heap.size n c (p + m) A zs v6 w7 := ⟨hcg6.only ho7 (Nat.ne_of_lt hgh), hch7, hmi7, hbel, Nat.le_trans (Nat.le_trans (Nat.le_trans (Nat.le_trans HSZ.out ho4.size) ho5.size) hbe6.size) ho7.size⟩
          go_roundw
          case rel => exact ⟨k + 1, p + m, by omega, by go_num, hfit, hst7⟩
          case measure => simp [intOf]; omega
        · have hw2 : m < 1 ∨ 7 < m := by omega
          have HWO : Hid (∀ W, Cur W w2.heap.size A n c p → Calls Try.prog 24 #[.pointer (some ⟨w2.heap.size, 0, none⟩), .int .i64 m] W fun e w' => e = .returned (.tuple #[.int .i64 0, .bool false]) ∧ W = w') := Lib.hid (fun W hW => word_out _ n c p m A W hW hp (by omega) (by omega))
          clear hw
          have hm08 : m = 0 ∨ m = 8 := by omega
          clear hw2
          rcases hm08 with rfl | rfl
          all_goals
            go_wp2_with (first
              | (go_at_call 16; refine (pos_any _ n c p A wr HCG.out).mono ?_; rintro e w' ⟨rfl, rfl⟩)
              | (go_at_call 23; refine (take_in _ n c p _ _ A zs wr HCG.out HBW.out hfit (by omega) hg0).mono ?_; rintro e w4 ⟨A4, c4, rfl, hby4, hfr4, hcg4, ho4⟩; have hch4 := HCH.out.only ho4 (Nat.ne_of_gt hgh); have hmi4 := HMI.out.only ho4 (Nat.lt_trans hgh hhb))
              | (go_at_call 24; refine (HWO.out w4 hch4).mono ?_; rintro e w' ⟨rfl, rfl⟩)
              | (at_builtin; have hsz4 := Nat.le_trans HSZ.out ho4.size; obtain ⟨v6, w6, hrun, hmi6, hbe6⟩ := hmi4.append hby4 25 (by omega) hsz4; refine Lib.wpList_append_run_sl _ rfl (.tmp 102) (.tmp 103) 25 rfl _ _ rfl rfl hrun ?_; clear hrun; have hcg6 := hcg4.below hbe6 (Nat.lt_trans hgh hhb); have hch6 := hch4.below hbe6 hhb)
              | (go_at_call 16; refine (pos_any _ n c _ A w6 hcg6).mono ?_; rintro e w' ⟨rfl, rfl⟩)
              | (go_at_call 26; refine (seek_in _ n c p _ A w6 hch6 hfit (by omega)).mono ?_; rintro e w7 ⟨rfl, hch7, ho7⟩))
            have hbel : Below w.heap.size w w7 := ((HBE.out.trans (ho4.belowB hg0 (Nat.le_of_lt HCG.out.lt))).trans (hbe6.mono (Nat.le_trans hg0 (Nat.le_of_lt (Nat.lt_trans hgh hhb))))).trans (ho7.belowB (Nat.le_trans hg0 (Nat.le_of_lt hgh)) (Nat.le_of_lt hch6.lt))
            have hmi7 := hmi6.only ho7 hhb
            rw [take_add] at hmi7
            have hst7 : PSt w w1.heap.size w2.heap.size w3.heap.size n c _ A zs v6 w7 := ⟨hcg6.only ho7 (Nat.ne_of_lt hgh), hch7, hmi7, hbel, Nat.le_trans (Nat.le_trans (Nat.le_trans HSZ.out ho4.size) hbe6.size) ho7.size⟩
            go_roundw
            case rel => exact ⟨k + 1, _, by omega, by go_num, hfit, hst7⟩
            case measure => simp [intOf]; omega
      · have hno : (n : Int) - p < m := by omega
        have HTO := Lib.hid (take_out _ n c p m A wr HCG.out hp (Or.inr hno) (by omega))
        have HWO := Lib.hid (word_out _ n c p m A wr HCH.out hp (Or.inr (Or.inr hno)) (by omega))
        go_wp2_with (first
          | (go_at_call 16; refine (pos_any _ n c p A wr HCG.out).mono ?_; rintro e w' ⟨rfl, rfl⟩)
          | (go_at_call 23; refine HTO.out.mono ?_; rintro e w' ⟨rfl, rfl⟩)
          | (go_at_call 24; refine HWO.out.mono ?_; rintro e w' ⟨rfl, rfl⟩)
          | (at_builtin; obtain ⟨v6, w6, hrun, hmi6, hbe6⟩ := HMI.out.append (Byt.none_ wr 0) 25 (by omega) HSZ.out; refine Lib.wpList_append_run_sl _ rfl (.tmp 102) (.tmp 103) 25 rfl _ _ rfl rfl hrun ?_; clear hrun; have hcg6 := HCG.out.below hbe6 (Nat.lt_trans hgh hhb); have hch6 := HCH.out.below hbe6 hhb)
          | (go_at_call 16; refine (pos_any _ n c _ A w6 hcg6).mono ?_; rintro e w' ⟨rfl, rfl⟩)
          | (go_at_call 26; refine (seek_in _ n c p _ A w6 hch6 hp (by omega)).mono ?_; rintro e w7 ⟨rfl, hch7, ho7⟩))
        have hbel : Below w.heap.size w w7 := (HBE.out.trans (hbe6.mono (Nat.le_trans hg0 (Nat.le_of_lt (Nat.lt_trans hgh hhb))))).trans (ho7.belowB (Nat.le_trans hg0 (Nat.le_of_lt hgh)) (Nat.le_of_lt hch6.lt))
        have hmi7 := hmi6.only ho7 hhb
        rw [List.append_nil] at hmi7
        have hst7 : PSt w w1.heap.size w2.heap.size w3.heap.size n c _ A zs v6 w7 := ⟨hcg6.only ho7 (Nat.ne_of_lt hgh), hch7, hmi7, hbel, Nat.le_trans (Nat.le_trans HSZ.out hbe6.size) ho7.size⟩
        go_roundw
        case rel => exact ⟨k + 1, _, by omega, by go_num, hp, hst7⟩
        case measure => simp [intOf]; omega
    · have HCG := Lib.hid hst.cg
      have HBE := Lib.hid hst.bel
      have HBW := Lib.hid ((HB.out.below hst.bel (Nat.le_refl _)).first hp)
      obtain ⟨A5, c5, rfl, hby5⟩ := hst.mine.byt
      have HBY := Lib.hid hby5
      have HSL := Lib.hid (fun W => run_cut0 (P := Try.prog) W 25 5 Try.underlying25 (fun w => by kernel_rfl) A n c p (by have := HB.out.cap; omega))
      clear hst hby5 hg
      have hsl := HSL.out
      go_wp2_with (first
        | (go_at_call 16; refine (pos_any _ n c p A wr HCG.out).mono ?_; rintro e w' ⟨rfl, rfl⟩)
        | (go_at_call 22; refine (refSame_yes A5 _ p c5 _ _ _ _ wr HBY.out HBW.out (by omega)).mono ?_; rintro e w4 ⟨rfl, q4, rfl⟩)
        | (go_at_call 26; (with_reducible refine (seek_out _ n c p (-1) A (wr.drewN q4) (HCG.out.drewN q4) (by omega) (by omega)).mono ?_); rintro e w' ⟨rfl, rfl⟩)
        | (go_at_call 26; (with_reducible refine (seek_out _ n c p ((n : Int) + 1) A (wr.drewN q4) (HCG.out.drewN q4) (by omega) (by omega)).mono ?_); rintro e w' ⟨rfl, rfl⟩)
        | (go_at_call 26; (with_reducible refine (seek_in _ n c p n A (wr.drewN q4) (HCG.out.drewN q4) (Nat.le_refl _) (by omega)).mono ?_); rintro e w5 ⟨rfl, hcg5, ho5⟩)
        | (go_at_call 10; refine (next_out _ n c A zs w5 hcg5 HB.out.len (by omega)).mono ?_; rintro e w' ⟨rfl, rfl⟩)
        | (go_at_call 18; refine (left_any _ n c n A w5 hcg5 (Nat.le_refl _) (by omega)).mono ?_; rintro e w' ⟨rfl, rfl⟩))
      go_ret
      exact ⟨rfl, (below_drewN HBE.out q4).trans (ho5.belowB hg0 (Nat.le_of_lt (HCG.out.drewN q4).lt))⟩
set_option maxRecDepth 100000 in
theorem pieces_lifted (os : Os) (started : os.Started) (H : Type) (enc : TypeId × Value → H) :
    ReturnsInHanded {} Try.checked os 7 .any (Rows.cursorPiecesSpec.pre6 enc Try.prog Try.f7 Rows.cursorPiecesRow.domain false) (Rows.cursorPiecesSpec.post enc Try.prog Try.f7 false true false false) := by
  refine returnsInHanded_of_change (C := Try.checked) own started (by kernel_rfl) Try.func7
    (ChangeSpec.witness6 (enc := enc) (C := Try.checked) false ⟨#[], #[.slice none 0 0, .slice none 0 0], []⟩ 8 (by kernel_rfl) (by kernel_rfl) (by kernel_rfl) (by kernel_rfl)) ?_
  intro W base args ds gs before hval0 hW hcnd _
  have hval : ∀ (j : Nat) t v, Try.f7.params[j]? = some t → args[j]? = some v → Value.okWide Try.prog W .any base t v := hval0
  have hW' := hW
  obtain ⟨p, q, hA0, hV, rfl, hfz, hnd⟩ := hW
  have hA : DataW.TrodAll enc Try.prog W 0 (fun _ => true) true Try.f7.params.toList args.toList ds p := hA0
  rw [Try.params7] at hA hval
  obtain ⟨v0, vs0, d0, ds0, p0, q0, hargs, rfl, rfl, h0, r0⟩ := trodAll_cons hA
  obtain ⟨v1, vs1, d1, ds1, p1, q1, rfl, rfl, rfl, h1, r1⟩ := trodAll_cons r0
  obtain ⟨rfl, rfl, rfl⟩ := trodAll_nil r1
  obtain rfl : args = #[v0, v1] := by cases args; simp_all
  obtain ⟨rfl, rfl⟩ := trodVars_none hV
  obtain ⟨a0, len0, cap0, rfl⟩ := okWide_slice Try.underlying25 (hval 0 25 v0 rfl rfl)
  have lt0 : ∀ x ∈ p0, x.block < W.heap.size := by obtain ⟨m, hm⟩ := h0; exact DataW.trod_lt m _ _ _ hm
  obtain ⟨zs, hz, hcm⟩ := open_bytes h0 (fun _ => rfl)
  obtain ⟨a1, len1, cap1, rfl⟩ := okWide_slice Try.underlying25 (hval 1 25 v1 rfl rfl)
  have lt1 : ∀ x ∈ p1, x.block < W.heap.size := by obtain ⟨m, hm⟩ := h1; exact DataW.trod_lt m _ _ _ hm
  obtain ⟨ys, hy, hcm1⟩ := open_bytes h1 (fun _ => rfl)
  have hmx : maxLen = 9223372036854775807 := by decide
  have hln0 : len0 ≤ 9223372036854775807 := by have := hz.cap; omega
  have hln1 : len1 ≤ 9223372036854775807 := by have := hy.cap; omega
  clear hA0 hval0
  refine (pieces_walk a0 len0 cap0 zs a1 len1 cap1 ys W hz hy hln0 hln1).mono fun e W' ⟨he, bel⟩ => ?_
  subst he
  exact ⟨_, rfl, _, _, _, [], _, [], hW', trodAll_mk1 (shut_bool Try.underlying4 _), (trodAll_cons_mk (Below.trod laidOut (by kernel_rfl) (of_decide_eq_true (by kernel_rfl)) h0 bel lt0) (trodAll_cons_mk (Below.trod laidOut (by kernel_rfl) (of_decide_eq_true (by kernel_rfl)) h1 bel lt1) trodAll_mk0)), rfl, bel.frame _, fun h => by cases h⟩

/-- CursorPieces: it answers true, whatever the bytes and the numbers. -/
theorem pieces_holds : Rows.CursorPiecesSaid :=
  OpenClaim.holds_of_wide 7 Try.f7 rfl rfl rfl rfl rfl rfl rfl ⟨rfl, rfl, rfl, rfl, rfl⟩ rfl rfl rfl rfl rfl (by kernel_rfl) Try.func7 (by kernel_rfl)
    (of_decide_eq_true (by kernel_rfl)) (by unfold Func.isWrapper; first | (rw [if_pos (by decide +kernel)]; kernel_rfl) | (rw [if_neg (by decide +kernel)]; exact ⟨rfl, rfl⟩))
    (fun os started H enc _ => pieces_lifted os started H enc)
#print axioms pieces_holds
end Go.Proofs.Ytffmdlknkimlhaa
