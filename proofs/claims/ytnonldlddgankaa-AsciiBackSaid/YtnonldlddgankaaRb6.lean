/- Chapter 6, the document's own Unbase85. -/
import Derived.Test.YtnonldlddgankaaRh6
namespace Go.Proofs.Ytnonldlddgankaa
open Go.RowKit
set_option linter.unusedVariables false
set_option maxRecDepth 100000

/-- The digits of a group that was begun, in a row that is not the sink's. -/
structure GR (w : World) (base ks : Nat) (v gv : Value) (gl : Nat) (g : List Int) : Prop where
  row : RowI w base gv gl g
  nil : gl = 0 → gv = .slice none 0 0
  sep : ∀ b, gv.ownBlock = some b → b ≠ ks ∧ v.ownBlock ≠ some b
  rng : ∀ d ∈ g, 0 ≤ d ∧ d ≤ 84
section
variable {w w' : World} {base ks M gl : Nat} {v gv : Value} {out g : List Int} {bad : Int}
theorem GR.none_ (w : World) (base ks : Nat) (v : Value) : GR w base ks v (.slice none 0 0) 0 [] := ⟨RowI.nil _ _, fun _ => rfl, (fun b hb => by cases hb), (fun d hd => by cases hd)⟩
theorem Snk.same (h : Snk w base ks v out M bad) (hb : ∀ i, i < w.heap.size → (i = ks ∨ v.ownBlock = some i) → w'.heap[i]? = w.heap[i]?) : Snk w' base ks v out M bad :=
  ⟨(hb ks h.lt (.inl rfl)).trans h.cell, h.row.same6 fun b hv hlt => hb b hlt (.inr hv), h.own, h.lo⟩
theorem GR.room (h : GR w base ks v gv gl g) (hs : Snk w base ks v out M bad) (d : Int) (hd : 0 ≤ d ∧ d ≤ 84) (hl : gl ≤ 10) :
    ∃ v' w', (Builtin.append_ #[62, 62] 62 #[gv, .slice (some ⟨w.heap.size, 0, none⟩) 1 1]).run Try.prog (w.alloc (.cells #[.int .i64 d] 3)) = .ok v' w' ∧ GR w' base ks v v' (gl + 1) (g ++ [d]) ∧ Snk w' base ks v out M bad ∧ Below base w w' ∧ ∃ A c, v' = .slice A (gl + 1) c := by
  obtain ⟨v6, w6, hrun, hrow, hbl, hbe, hsz, hown⟩ := h.row.append1 d 62 (by omega) hs.base_le
  obtain ⟨A6, c6, hv6, _⟩ := hrow.nums
  refine ⟨v6, w6, hrun, ⟨hrow, fun h0 => by omega, fun b hb => ?_, fun x hx => ?_⟩, hs.same fun i hi ho => hbl i hi (fun e => ?_), hbe, A6, c6, hv6⟩
  · rcases hown b hb with h1 | h1
    · exact h.sep b h1
    · refine ⟨by have := hs.lt; omega, fun e => ?_⟩
      have := hs.row.lt b e
      omega
  · rcases List.mem_append.1 hx with hx | hx
    · exact h.rng x hx
    · simp at hx; subst hx; exact hd
  · rcases ho with rfl | ho
    · exact (h.sep i e).1 rfl
    · exact (h.sep i e).2 ho
theorem GR.drewN (h : GR w base ks v gv gl g) (k : Nat) : GR (w.drewN k) base ks v gv gl g := ⟨h.row.drewN k, h.nil, h.sep, h.rng⟩
end
/-- What the last group leaves of a sink. -/
def LstEnd (M : Nat) (g out out' : List Int) (b' : Int) : Prop := (b' = 0 ∧ lstR M g out = (out', 0)) ∨ (¬ b' = 0 ∧ lstR M g out = ([], b'))
theorem LstEnd.fin {M : Nat} {g out out' cs : List Int} {b' : Int} {R : List Int × Int} (h : LstEnd M g out out' b') (hT : (if (lstR M g out).2 = 0 then (if tlR cs = 0 then ((lstR M g out).1, 0) else ([], tlR cs)) else ([], (lstR M g out).2)) = R) : (b' = 0 ∧ (if tlR cs = 0 then (out', 0) else ([], tlR cs)) = R) ∨ (¬ b' = 0 ∧ R = ([], b')) := by
  rcases h with ⟨h1, h2⟩ | ⟨h1, h2⟩
  · rw [h2, if_pos rfl] at hT
    exact .inl ⟨h1, hT⟩
  · rw [h2, if_neg h1] at hT
    exact .inr ⟨h1, hT.symm⟩
theorem zero4 (k : Nat) (h : k < 4) : ([0, 0, 0, 0] : List Int).take (k + 1) = ([0, 0, 0, 0] : List Int).take k ++ [0] ∧ (([0, 0, 0, 0] : List Int).take k).length = k := by
  match k, h with
  | 0, _ => exact ⟨rfl, rfl⟩
  | 1, _ => exact ⟨rfl, rfl⟩
  | 2, _ => exact ⟨rfl, rfl⟩
  | 3, _ => exact ⟨rfl, rfl⟩

theorem grp_len2 (M : Nat) (g o o' : List Int) (h : grpR M g o = (o', 0)) : o'.length ≤ M ∧ o'.length ≤ o.length + 4 := by
  unfold grpR at h
  split at h
  · cases h
  · split at h
    · cases h
    · cases h
      rw [List.length_append, List.length_take]
      have : (by4 (v85 g)).length = 4 := rfl
      omega
theorem sg_drop (zs : List Int) (q : Nat) (hq : q < zs.length) : (sgA (zs.drop q) 0).1 = if whB (zs.getD q 0) = true then (sgA (zs.drop (q + 1)) 0).1 else zs.getD q 0 := by
  rw [drop_atZ zs q hq, sgA]
  split
  · exact (sgA_p _ 1 0).1
  · rfl
set_option maxHeartbeats 8000000 in
theorem refUnbase85 (A : Option Addr) (n c : Nat) (most : Int) (zs : List Int) (w : World) (hb : Byt w w.heap.size A n c zs) (hn : n ≤ 200000) (m0 : -9223372036854775808 ≤ most) (m1 : most ≤ 9223372036854775807) (R : List Int × Int) (hR : u85R (max most 0).toNat zs [] [] = R) :
    Calls Try.prog 17 #[.slice A n c, .int .i64 most] w (ReadPost w R) := by
  have HB := Lib.hid hb
  have HL := Lib.hid hb.len
  obtain ⟨M, hM⟩ : ∃ M : Nat, (max most 0).toNat = M := ⟨_, rfl⟩
  rw [hM] at hR
  have HR := Lib.hid hR
  have hM2 : max most 0 = (M : Int) := by omega
  clear hM
  have HS0 := Lib.hid (Snk.new w w.heap.size M (Nat.le_refl _))
  clear hb hR
  go_enter Try.func17, Try.ntmps17
  go_wp2_with fail
  go_loopw [7, 8] (fun gv iv wr => ∃ (p gl : Nat) (g : List Int) (v : Value) (out : List Int) (bad : Int), p ≤ n ∧ iv = .int .i64 p ∧ gl ≤ 4 ∧ Hid (bad = 0 → out.length ≤ M ∧ out.length ≤ 4 * p) ∧ Hid (Snk wr w.heap.size w.heap.size v out M bad) ∧ Hid (bad = 0 → GR wr w.heap.size w.heap.size v gv gl g) ∧ Hid (StS (u85R M (zs.drop p) g out) bad R) ∧ Hid (Below w.heap.size w wr)) (fun _ iv _ => n - (intOf iv).toNat)
  case atStart => exact ⟨0, 0, [], _, [], 0, Nat.zero_le _, rfl, by omega, Lib.hid (fun _ => by simp), HS0, Lib.hid (fun _ => GR.none_ _ _ _ _), Lib.hid (.inl ⟨rfl, HR.out⟩), Lib.hid ((Below.refl _ _).alloc (Nat.le_refl _) _)⟩
  case round =>
    obtain ⟨p, gl, g, v, out, bad, hp, rfl, hgl, HOM, HS, HG, HT, HBE⟩ := hrel
    have c2 := HS.out.c2
    by_cases hbad : bad = 0
    · subst hbad
      have hT : u85R M (zs.drop p) g out = R := by
        rcases HT.out with ⟨_, h⟩ | ⟨h, _⟩
        · exact h
        · exact absurd rfl h
      clear HT
      obtain ⟨hom, hol⟩ := HOM.out rfl
      clear HOM
      have hgr := HG.out rfl
      obtain ⟨Ag, cg, hgv, hgn, hgo⟩ := hgr.row.nums
      subst hgv
      have HGR := Lib.hid hgr
      have HGN := Lib.hid hgn
      have HGO := Lib.hid hgo
      have HGL := Lib.hid hgr.row.len
      clear HG hgr hgn hgo
      by_cases hlt : p < n
      · rw [drop_atZ zs p (by rw [HL.out]; exact hlt)] at hT
        have hby := HB.out.below HBE.out (Nat.le_refl _)
        have HBY := Lib.hid hby
        have hz := HB.out.getD p
        obtain ⟨b, o, hAA, _, hc⟩ := hby.cell (by omega)
        subst hAA
        have ck := hc p hlt
        obtain ⟨z, hzz⟩ : ∃ z, zs.getD p 0 = z := ⟨_, rfl⟩
        rw [hzz] at ck hz hT
        obtain ⟨z0, z1⟩ := hz
        rw [u85R] at hT
        have hpn : (p : Int) < n := by omega
        have HO := Lib.hid (show out.length ≤ 1000000 by omega)
        have HWH := Lib.hid (fun W => rwhite z W)
        rcases hw : whB z with _ | _
        · rw [hw, if_neg (by decide)] at hT
          rw [hw] at HWH
          by_cases h126 : z = 126
          · rw [if_pos h126] at hT
            subst h126
            have HT := Lib.hid hT
            clear hby hc hzz hw hT
            have hg3 : gl = 0 ∨ gl = 1 ∨ 2 ≤ gl := by omega
            rcases hg3 with hg3 | hg3 | hg3
            · have HE2 : Hid (LstEnd M g out out 0) := Lib.hid (.inl ⟨rfl, by unfold lstR; rw [if_pos (by rw [HGL.out]; exact hg3)]⟩)
              subst hg3
              have HS2 := HS
              have HB2 := HBE
              go_upto_region 17 with (first | (go_at_call 20; refine (HWH.out _).mono ?_; (rintro r w2 ⟨rfl, rfl⟩)))
              have HBY2 := Lib.hid (HB.out.below HB2.out (Nat.le_refl _))
              rcases HE2.out.fin HT.out with ⟨hb20, hfin⟩ | ⟨hb2n, hfin⟩
              · have HFIN := Lib.hid hfin
                have HF2 := Lib.hid (fun W u x (hW : Snk W w.heap.size w.heap.size u x M 0) => skfail0 w.heap.size w.heap.size M 2 u x W hW)
                have HF4 := Lib.hid (fun W u x (hW : Snk W w.heap.size w.heap.size u x M 0) => skfail0 w.heap.size w.heap.size M 4 u x W hW)
                have HO2 := Lib.hid (fun W u x (hW : Snk W w.heap.size w.heap.size u x M 2) => skout1 w.heap.size w.heap.size M 2 u x W hW (by decide))
                have HO4 := Lib.hid (fun W u x (hW : Snk W w.heap.size w.heap.size u x M 4) => skout1 w.heap.size w.heap.size M 4 u x W hW (by decide))
                have HOT := Lib.hid (fun W u x (hW : Snk W w.heap.size w.heap.size u x M 0) => skout0 w.heap.size w.heap.size M u x W hW)
                clear hfin
                go_wp2_with fail
                go_loop [8] (fun iv => ∃ q : Nat, q ≤ n ∧ iv = .int .i64 q ∧ Hid ((sgA (zs.drop q) 0).1 = (sgA (zs.drop (p + 1)) 0).1)) (fun iv => n - (intOf iv).toNat)
                case atStart => exact ⟨p + 1, hlt, by go_num, Lib.hid rfl⟩
                case round =>
                  obtain ⟨q, hq, rfl, HQ⟩ := hrel
                  by_cases hqn : q < n
                  · have hsd := sg_drop zs q (by rw [HL.out]; exact hqn)
                    obtain ⟨b3, o3, e3, _, hc3⟩ := HBY2.out.cell (by omega)
                    injection e3 with e3
                    injection e3 with e3 e4
                    subst e3 e4
                    have ck3 := hc3 q hqn
                    have hyb := HB.out.getD q
                    obtain ⟨y, hyy⟩ : ∃ y, zs.getD q 0 = y := ⟨_, rfl⟩
                    rw [hyy] at ck3 hsd hyb
                    obtain ⟨y0, y1⟩ := hyb
                    have HW2 := Lib.hid (fun W => rwhite y W)
                    have hqi : (q : Int) < n := by omega
                    clear hc3 hyy
                    rcases hwy : whB y with _ | _
                    · rw [hwy, if_neg (by decide)] at hsd
                      rw [hwy] at HW2
                      have hsy : (sgA (zs.drop (p + 1)) 0).1 = y := by rw [← HQ.out]; exact hsd
                      clear hsd hwy
                      by_cases hy62 : y = 62
                      · have HTL : Hid (tlR (zs.drop (p + 1)) = 0) := Lib.hid (by unfold tlR; rw [hsy, if_neg (by omega), if_pos hy62])
                        subst hy62
                        clear hsy
                        go_wp2_with (first | (go_at_call 20; refine (HW2.out _).mono ?_; (rintro r w5 ⟨rfl, rfl⟩)) | (go_at_call 31; refine (HOT.out _ _ _ HS2.out).mono ?_; (rintro r w5 ⟨rfl, q9, hq9⟩); subst hq9))
                        go_ret2
                        have hfin := HFIN.out
                        rw [HTL.out, if_pos rfl] at hfin
                        rw [← hfin]
                        exact ReadPost.of_row (below_drewN HB2.out _) (HS2.out.row.drewN _)
                      · have HTL : Hid (tlR (zs.drop (p + 1)) = 4) := Lib.hid (by unfold tlR; rw [hsy, if_neg (by omega), if_neg hy62])
                        have hy62b : (y == 62) = false := beq_eq_false_iff_ne.2 hy62
                        clear hsy hy62
                        go_wp2_with (first | (go_at_call 20; refine (HW2.out _).mono ?_; (rintro r w5 ⟨rfl, rfl⟩)) | (go_at_call 32; refine (HF4.out _ _ _ HS2.out).mono ?_; (rintro r w4 ⟨rfl, hs4, hb4⟩); have HS4 := Lib.hid hs4; have HB4 := Lib.hid (HB2.out.trans hb4); clear hs4 hb4) | (go_at_call 31; refine (HO4.out _ _ _ HS4.out).mono ?_; (rintro r w5 ⟨rfl, q9, hq9⟩); subst hq9))
                        go_ret2
                        have hfin := HFIN.out
                        rw [HTL.out, if_neg (by decide)] at hfin
                        rw [← hfin]
                        exact ReadPost.of_bad 4 (below_drewN HB4.out _)
                    · rw [hwy, if_pos rfl] at hsd
                      rw [hwy] at HW2
                      have HQ2 := Lib.hid (hsd.symm.trans HQ.out)
                      clear hsd hwy
                      go_wp2_with (first | (go_at_call 20; refine (HW2.out _).mono ?_; (rintro r w5 ⟨rfl, rfl⟩)))
                      go_round
                      case rel => exact ⟨q + 1, hqn, by go_num, HQ2⟩
                      case measure => simp [intOf]; omega
                  · obtain rfl : q = n := by omega
                    have HTL : Hid (tlR (zs.drop (p + 1)) = 2) := Lib.hid (by unfold tlR; rw [← HQ.out, List.drop_of_length_le (by rw [HL.out]; exact Nat.le_refl _)]; rfl)
                    clear hqn
                    go_wp2_with (first | (go_at_call 32; refine (HF2.out _ _ _ HS2.out).mono ?_; (rintro r w4 ⟨rfl, hs4, hb4⟩); have HS4 := Lib.hid hs4; have HB4 := Lib.hid (HB2.out.trans hb4); clear hs4 hb4) | (go_at_call 31; refine (HO2.out _ _ _ HS4.out).mono ?_; (rintro r w5 ⟨rfl, q9, hq9⟩); subst hq9))
                    go_ret2
                    have hfin := HFIN.out
                    rw [HTL.out, if_neg (by decide)] at hfin
                    rw [← hfin]
                    exact ReadPost.of_bad 2 (below_drewN HB4.out _)
              · exact absurd rfl hb2n
            · have HE2 : Hid (LstEnd M g out out 4) := Lib.hid (.inr ⟨by decide, by unfold lstR; rw [if_neg (by rw [HGL.out]; omega), if_pos (by rw [HGL.out]; exact hg3)]⟩)
              subst hg3
              have HF1 := Lib.hid (skfail0 w.heap.size w.heap.size M 4 v out wr HS.out)
              go_upto_region 17 with (first | (go_at_call 20; refine (HWH.out _).mono ?_; (rintro r w2 ⟨rfl, rfl⟩)) | (go_at_call 32; refine HF1.out.mono ?_; (rintro r w2 ⟨rfl, hs2, hb2⟩); have HS2 := Lib.hid hs2; have HB2 := Lib.hid (HBE.out.trans hb2); clear hs2 hb2))
              have HBY2 := Lib.hid (HB.out.below HB2.out (Nat.le_refl _))
              rcases HE2.out.fin HT.out with ⟨hb20, hfin⟩ | ⟨hb2n, hfin⟩
              · exact absurd hb20 (by decide)
              · have HFIN := Lib.hid hfin
                have HF2 := Lib.hid (fun W u x bb (hW : Snk W w.heap.size w.heap.size u x M bb) (hbb : ¬ bb = 0) => skfail1 w.heap.size w.heap.size M bb 2 u x W hW hbb)
                have HF4 := Lib.hid (fun W u x bb (hW : Snk W w.heap.size w.heap.size u x M bb) (hbb : ¬ bb = 0) => skfail1 w.heap.size w.heap.size M bb 4 u x W hW hbb)
                have HOT := Lib.hid (fun W u x bb (hW : Snk W w.heap.size w.heap.size u x M bb) (hbb : ¬ bb = 0) => skout1 w.heap.size w.heap.size M bb u x W hW hbb)
                have HBN := Lib.hid hb2n
                clear hfin hb2n
                go_wp2_with fail
                go_loop [8] (fun iv => ∃ q : Nat, q ≤ n ∧ iv = .int .i64 q ∧ Hid ((sgA (zs.drop q) 0).1 = (sgA (zs.drop (p + 1)) 0).1)) (fun iv => n - (intOf iv).toNat)
                case atStart => exact ⟨p + 1, hlt, by go_num, Lib.hid rfl⟩
                case round =>
                  obtain ⟨q, hq, rfl, HQ⟩ := hrel
                  by_cases hqn : q < n
                  · have hsd := sg_drop zs q (by rw [HL.out]; exact hqn)
                    obtain ⟨b3, o3, e3, _, hc3⟩ := HBY2.out.cell (by omega)
                    injection e3 with e3
                    injection e3 with e3 e4
                    subst e3 e4
                    have ck3 := hc3 q hqn
                    have hyb := HB.out.getD q
                    obtain ⟨y, hyy⟩ : ∃ y, zs.getD q 0 = y := ⟨_, rfl⟩
                    rw [hyy] at ck3 hsd hyb
                    obtain ⟨y0, y1⟩ := hyb
                    have HW2 := Lib.hid (fun W => rwhite y W)
                    have hqi : (q : Int) < n := by omega
                    clear hc3 hyy
                    rcases hwy : whB y with _ | _
                    · rw [hwy, if_neg (by decide)] at hsd
                      rw [hwy] at HW2
                      have hsy : (sgA (zs.drop (p + 1)) 0).1 = y := by rw [← HQ.out]; exact hsd
                      clear hsd hwy
                      by_cases hy62 : y = 62
                      · have HTL : Hid (tlR (zs.drop (p + 1)) = 0) := Lib.hid (by unfold tlR; rw [hsy, if_neg (by omega), if_pos hy62])
                        subst hy62
                        clear hsy
                        go_wp2_with (first | (go_at_call 20; refine (HW2.out _).mono ?_; (rintro r w5 ⟨rfl, rfl⟩)) | (go_at_call 31; refine (HOT.out _ _ _ _ HS2.out HBN.out).mono ?_; (rintro r w5 ⟨rfl, q9, hq9⟩); subst hq9))
                        go_ret2
                        rw [HFIN.out]
                        exact ReadPost.of_bad _ (below_drewN HB2.out _)
                      · have HTL : Hid (tlR (zs.drop (p + 1)) = 4) := Lib.hid (by unfold tlR; rw [hsy, if_neg (by omega), if_neg hy62])
                        have hy62b : (y == 62) = false := beq_eq_false_iff_ne.2 hy62
                        clear hsy hy62
                        go_wp2_with (first | (go_at_call 20; refine (HW2.out _).mono ?_; (rintro r w5 ⟨rfl, rfl⟩)) | (go_at_call 32; refine (HF4.out _ _ _ _ HS2.out HBN.out).mono ?_; (rintro r w4 ⟨rfl, hs4, hb4⟩); have HS4 := Lib.hid hs4; have HB4 := Lib.hid (HB2.out.trans hb4); clear hs4 hb4) | (go_at_call 31; refine (HOT.out _ _ _ _ HS4.out HBN.out).mono ?_; (rintro r w5 ⟨rfl, q9, hq9⟩); subst hq9))
                        go_ret2
                        rw [HFIN.out]
                        exact ReadPost.of_bad _ (below_drewN HB4.out _)
                    · rw [hwy, if_pos rfl] at hsd
                      rw [hwy] at HW2
                      have HQ2 := Lib.hid (hsd.symm.trans HQ.out)
                      clear hsd hwy
                      go_wp2_with (first | (go_at_call 20; refine (HW2.out _).mono ?_; (rintro r w5 ⟨rfl, rfl⟩)))
                      go_round
                      case rel => exact ⟨q + 1, hqn, by go_num, HQ2⟩
                      case measure => simp [intOf]; omega
                  · obtain rfl : q = n := by omega
                    have HTL : Hid (tlR (zs.drop (p + 1)) = 2) := Lib.hid (by unfold tlR; rw [← HQ.out, List.drop_of_length_le (by rw [HL.out]; exact Nat.le_refl _)]; rfl)
                    clear hqn
                    go_wp2_with (first | (go_at_call 32; refine (HF2.out _ _ _ _ HS2.out HBN.out).mono ?_; (rintro r w4 ⟨rfl, hs4, hb4⟩); have HS4 := Lib.hid hs4; have HB4 := Lib.hid (HB2.out.trans hb4); clear hs4 hb4) | (go_at_call 31; refine (HOT.out _ _ _ _ HS4.out HBN.out).mono ?_; (rintro r w5 ⟨rfl, q9, hq9⟩); subst hq9))
                    go_ret2
                    rw [HFIN.out]
                    exact ReadPost.of_bad _ (below_drewN HB4.out _)
            · have HGP := Lib.hid (skgroup w.heap.size w.heap.size M gl cg wr.heap.size Ag v g out wr HS.out HGN.out (Nat.le_refl _) hg3 (by omega) HGR.out.rng HO.out hom)
              have hg3a : ¬ (gl : Int) = 1 := by omega
              have hg3b : ((gl : Int) == 1) = false := beq_eq_false_iff_ne.2 hg3a
              have hg3c : 1 < (gl : Int) := by omega
              have HG3 := Lib.hid hg3
              go_upto_region 17 with (first | (go_at_call 20; refine (HWH.out _).mono ?_; (rintro r w2 ⟨rfl, rfl⟩)) | (go_at_call 33; refine HGP.out.mono ?_; (rintro r w2 ⟨rfl, u2, out2, b2, hs2, hg2, hb2⟩); have HS2 := Lib.hid hs2; have HG2 := Lib.hid hg2; have HB2 := Lib.hid (HBE.out.trans hb2); clear hs2 hg2 hb2))
              have HE2 : Hid (LstEnd M g out out2 b2) := Lib.hid (by
                unfold LstEnd lstR
                rw [if_neg (by rw [HGL.out]; have := HG3.out; omega), if_neg (by rw [HGL.out]; have := HG3.out; omega)]
                rcases HG2.out with h | ⟨h1, h2, _⟩
                · exact .inl h
                · exact .inr ⟨h1, h2⟩)
              have HBY2 := Lib.hid (HB.out.below HB2.out (Nat.le_refl _))
              rcases HE2.out.fin HT.out with ⟨rfl, hfin⟩ | ⟨hb2n, hfin⟩
              · have HFIN := Lib.hid hfin
                have HF2 := Lib.hid (fun W u x (hW : Snk W w.heap.size w.heap.size u x M 0) => skfail0 w.heap.size w.heap.size M 2 u x W hW)
                have HF4 := Lib.hid (fun W u x (hW : Snk W w.heap.size w.heap.size u x M 0) => skfail0 w.heap.size w.heap.size M 4 u x W hW)
                have HO2 := Lib.hid (fun W u x (hW : Snk W w.heap.size w.heap.size u x M 2) => skout1 w.heap.size w.heap.size M 2 u x W hW (by decide))
                have HO4 := Lib.hid (fun W u x (hW : Snk W w.heap.size w.heap.size u x M 4) => skout1 w.heap.size w.heap.size M 4 u x W hW (by decide))
                have HOT := Lib.hid (fun W u x (hW : Snk W w.heap.size w.heap.size u x M 0) => skout0 w.heap.size w.heap.size M u x W hW)
                clear hfin
                go_wp2_with fail
                go_loop [8] (fun iv => ∃ q : Nat, q ≤ n ∧ iv = .int .i64 q ∧ Hid ((sgA (zs.drop q) 0).1 = (sgA (zs.drop (p + 1)) 0).1)) (fun iv => n - (intOf iv).toNat)
                case atStart => exact ⟨p + 1, hlt, by go_num, Lib.hid rfl⟩
                case round =>
                  obtain ⟨q, hq, rfl, HQ⟩ := hrel
                  by_cases hqn : q < n
                  · have hsd := sg_drop zs q (by rw [HL.out]; exact hqn)
                    obtain ⟨b3, o3, e3, _, hc3⟩ := HBY2.out.cell (by omega)
                    injection e3 with e3
                    injection e3 with e3 e4
                    subst e3 e4
                    have ck3 := hc3 q hqn
                    have hyb := HB.out.getD q
                    obtain ⟨y, hyy⟩ : ∃ y, zs.getD q 0 = y := ⟨_, rfl⟩
                    rw [hyy] at ck3 hsd hyb
                    obtain ⟨y0, y1⟩ := hyb
                    have HW2 := Lib.hid (fun W => rwhite y W)
                    have hqi : (q : Int) < n := by omega
                    clear hc3 hyy
                    rcases hwy : whB y with _ | _
                    · rw [hwy, if_neg (by decide)] at hsd
                      rw [hwy] at HW2
                      have hsy : (sgA (zs.drop (p + 1)) 0).1 = y := by rw [← HQ.out]; exact hsd
                      clear hsd hwy
                      by_cases hy62 : y = 62
                      · have HTL : Hid (tlR (zs.drop (p + 1)) = 0) := Lib.hid (by unfold tlR; rw [hsy, if_neg (by omega), if_pos hy62])
                        subst hy62
                        clear hsy
                        go_wp2_with (first | (go_at_call 20; refine (HW2.out _).mono ?_; (rintro r w5 ⟨rfl, rfl⟩)) | (go_at_call 31; refine (HOT.out _ _ _ HS2.out).mono ?_; (rintro r w5 ⟨rfl, q9, hq9⟩); subst hq9))
                        go_ret2
                        have hfin := HFIN.out
                        rw [HTL.out, if_pos rfl] at hfin
                        rw [← hfin]
                        exact ReadPost.of_row (below_drewN HB2.out _) (HS2.out.row.drewN _)
                      · have HTL : Hid (tlR (zs.drop (p + 1)) = 4) := Lib.hid (by unfold tlR; rw [hsy, if_neg (by omega), if_neg hy62])
                        have hy62b : (y == 62) = false := beq_eq_false_iff_ne.2 hy62
                        clear hsy hy62
                        go_wp2_with (first | (go_at_call 20; refine (HW2.out _).mono ?_; (rintro r w5 ⟨rfl, rfl⟩)) | (go_at_call 32; refine (HF4.out _ _ _ HS2.out).mono ?_; (rintro r w4 ⟨rfl, hs4, hb4⟩); have HS4 := Lib.hid hs4; have HB4 := Lib.hid (HB2.out.trans hb4); clear hs4 hb4) | (go_at_call 31; refine (HO4.out _ _ _ HS4.out).mono ?_; (rintro r w5 ⟨rfl, q9, hq9⟩); subst hq9))
                        go_ret2
                        have hfin := HFIN.out
                        rw [HTL.out, if_neg (by decide)] at hfin
                        rw [← hfin]
                        exact ReadPost.of_bad 4 (below_drewN HB4.out _)
                    · rw [hwy, if_pos rfl] at hsd
                      rw [hwy] at HW2
                      have HQ2 := Lib.hid (hsd.symm.trans HQ.out)
                      clear hsd hwy
                      go_wp2_with (first | (go_at_call 20; refine (HW2.out _).mono ?_; (rintro r w5 ⟨rfl, rfl⟩)))
                      go_round
                      case rel => exact ⟨q + 1, hqn, by go_num, HQ2⟩
                      case measure => simp [intOf]; omega
                  · obtain rfl : q = n := by omega
                    have HTL : Hid (tlR (zs.drop (p + 1)) = 2) := Lib.hid (by unfold tlR; rw [← HQ.out, List.drop_of_length_le (by rw [HL.out]; exact Nat.le_refl _)]; rfl)
                    clear hqn
                    go_wp2_with (first | (go_at_call 32; refine (HF2.out _ _ _ HS2.out).mono ?_; (rintro r w4 ⟨rfl, hs4, hb4⟩); have HS4 := Lib.hid hs4; have HB4 := Lib.hid (HB2.out.trans hb4); clear hs4 hb4) | (go_at_call 31; refine (HO2.out _ _ _ HS4.out).mono ?_; (rintro r w5 ⟨rfl, q9, hq9⟩); subst hq9))
                    go_ret2
                    have hfin := HFIN.out
                    rw [HTL.out, if_neg (by decide)] at hfin
                    rw [← hfin]
                    exact ReadPost.of_bad 2 (below_drewN HB4.out _)
              · have HFIN := Lib.hid hfin
                have HF2 := Lib.hid (fun W u x bb (hW : Snk W w.heap.size w.heap.size u x M bb) (hbb : ¬ bb = 0) => skfail1 w.heap.size w.heap.size M bb 2 u x W hW hbb)
                have HF4 := Lib.hid (fun W u x bb (hW : Snk W w.heap.size w.heap.size u x M bb) (hbb : ¬ bb = 0) => skfail1 w.heap.size w.heap.size M bb 4 u x W hW hbb)
                have HOT := Lib.hid (fun W u x bb (hW : Snk W w.heap.size w.heap.size u x M bb) (hbb : ¬ bb = 0) => skout1 w.heap.size w.heap.size M bb u x W hW hbb)
                have HBN := Lib.hid hb2n
                clear hfin hb2n
                go_wp2_with fail
                go_loop [8] (fun iv => ∃ q : Nat, q ≤ n ∧ iv = .int .i64 q ∧ Hid ((sgA (zs.drop q) 0).1 = (sgA (zs.drop (p + 1)) 0).1)) (fun iv => n - (intOf iv).toNat)
                case atStart => exact ⟨p + 1, hlt, by go_num, Lib.hid rfl⟩
                case round =>
                  obtain ⟨q, hq, rfl, HQ⟩ := hrel
                  by_cases hqn : q < n
                  · have hsd := sg_drop zs q (by rw [HL.out]; exact hqn)
                    obtain ⟨b3, o3, e3, _, hc3⟩ := HBY2.out.cell (by omega)
                    injection e3 with e3
                    injection e3 with e3 e4
                    subst e3 e4
                    have ck3 := hc3 q hqn
                    have hyb := HB.out.getD q
                    obtain ⟨y, hyy⟩ : ∃ y, zs.getD q 0 = y := ⟨_, rfl⟩
                    rw [hyy] at ck3 hsd hyb
                    obtain ⟨y0, y1⟩ := hyb
                    have HW2 := Lib.hid (fun W => rwhite y W)
                    have hqi : (q : Int) < n := by omega
                    clear hc3 hyy
                    rcases hwy : whB y with _ | _
                    · rw [hwy, if_neg (by decide)] at hsd
                      rw [hwy] at HW2
                      have hsy : (sgA (zs.drop (p + 1)) 0).1 = y := by rw [← HQ.out]; exact hsd
                      clear hsd hwy
                      by_cases hy62 : y = 62
                      · have HTL : Hid (tlR (zs.drop (p + 1)) = 0) := Lib.hid (by unfold tlR; rw [hsy, if_neg (by omega), if_pos hy62])
                        subst hy62
                        clear hsy
                        go_wp2_with (first | (go_at_call 20; refine (HW2.out _).mono ?_; (rintro r w5 ⟨rfl, rfl⟩)) | (go_at_call 31; refine (HOT.out _ _ _ _ HS2.out HBN.out).mono ?_; (rintro r w5 ⟨rfl, q9, hq9⟩); subst hq9))
                        go_ret2
                        rw [HFIN.out]
                        exact ReadPost.of_bad _ (below_drewN HB2.out _)
                      · have HTL : Hid (tlR (zs.drop (p + 1)) = 4) := Lib.hid (by unfold tlR; rw [hsy, if_neg (by omega), if_neg hy62])
                        have hy62b : (y == 62) = false := beq_eq_false_iff_ne.2 hy62
                        clear hsy hy62
                        go_wp2_with (first | (go_at_call 20; refine (HW2.out _).mono ?_; (rintro r w5 ⟨rfl, rfl⟩)) | (go_at_call 32; refine (HF4.out _ _ _ _ HS2.out HBN.out).mono ?_; (rintro r w4 ⟨rfl, hs4, hb4⟩); have HS4 := Lib.hid hs4; have HB4 := Lib.hid (HB2.out.trans hb4); clear hs4 hb4) | (go_at_call 31; refine (HOT.out _ _ _ _ HS4.out HBN.out).mono ?_; (rintro r w5 ⟨rfl, q9, hq9⟩); subst hq9))
                        go_ret2
                        rw [HFIN.out]
                        exact ReadPost.of_bad _ (below_drewN HB4.out _)
                    · rw [hwy, if_pos rfl] at hsd
                      rw [hwy] at HW2
                      have HQ2 := Lib.hid (hsd.symm.trans HQ.out)
                      clear hsd hwy
                      go_wp2_with (first | (go_at_call 20; refine (HW2.out _).mono ?_; (rintro r w5 ⟨rfl, rfl⟩)))
                      go_round
                      case rel => exact ⟨q + 1, hqn, by go_num, HQ2⟩
                      case measure => simp [intOf]; omega
                  · obtain rfl : q = n := by omega
                    have HTL : Hid (tlR (zs.drop (p + 1)) = 2) := Lib.hid (by unfold tlR; rw [← HQ.out, List.drop_of_length_le (by rw [HL.out]; exact Nat.le_refl _)]; rfl)
                    clear hqn
                    go_wp2_with (first | (go_at_call 32; refine (HF2.out _ _ _ _ HS2.out HBN.out).mono ?_; (rintro r w4 ⟨rfl, hs4, hb4⟩); have HS4 := Lib.hid hs4; have HB4 := Lib.hid (HB2.out.trans hb4); clear hs4 hb4) | (go_at_call 31; refine (HOT.out _ _ _ _ HS4.out HBN.out).mono ?_; (rintro r w5 ⟨rfl, q9, hq9⟩); subst hq9))
                    go_ret2
                    rw [HFIN.out]
                    exact ReadPost.of_bad _ (below_drewN HB4.out _)
          · rw [if_neg h126] at hT
            have h126b : (z == 126) = false := beq_eq_false_iff_ne.2 h126
            by_cases h122 : z = 122 ∧ gl = 0
            · rw [if_pos (by rw [HGL.out]; exact h122)] at hT
              obtain ⟨rfl, rfl⟩ := h122
              have HT := Lib.hid hT
              have HN := Lib.hid (HGR.out.nil rfl)
              clear hby hc hzz hw h126 hT h126b
              have hlo : ((0 : Nat) : Int) = 0 := rfl
              go_wp2_with (first
                | (go_at_call 20; refine (HWH.out _).mono ?_; (rintro r w2 ⟨rfl, rfl⟩)))
              go_loopw [10] (fun kv ws => ∃ (k : Nat) (u : Value) (out' : List Int) (b' : Int), k ≤ 4 ∧ kv = .int .i64 k ∧ Hid (Snk ws w.heap.size w.heap.size u out' M b') ∧ Hid (PutK M [0, 0, 0, 0] out k out' b') ∧ Hid (Below w.heap.size w ws)) (fun kv _ => 4 - (intOf kv).toNat)
              case atStart => exact ⟨0, v, out, 0, by omega, rfl, HS, Lib.hid (.inl ⟨rfl, by simp, by simpa using hom⟩), HBE⟩
              case round =>
                obtain ⟨k, u, out', b', hk4, rfl, HS1, HK1, HB1⟩ := hrel
                by_cases hlt2 : k < 4
                · have hol2 : out'.length ≤ 100000000 := by
                    have := HO.out
                    rcases HK1.out with ⟨_, rfl, _⟩ | ⟨_, _, h3⟩
                    · rw [List.length_append, List.length_take]; omega
                    · omega
                  have HP := Lib.hid (skput w.heap.size w.heap.size M b' 0 u out' wr HS1.out (by omega) hol2)
                  have hk4i : (k : Int) < 4 := by omega
                  clear hol2
                  go_wp2_with (go_at_call 30; refine HP.out.mono ?_; (rintro r w2 ⟨rfl, u2, hs2, hb2⟩); have HS2 := Lib.hid hs2; have HB2 := Lib.hid hb2; clear hs2 hb2)
                  go_roundw
                  case rel => exact ⟨k + 1, u2, _, _, hlt2, by go_num, HS2, Lib.hid (HK1.out.step 0 (zero4 k hlt2).1 (zero4 k hlt2).2), Lib.hid (HB1.out.trans HB2.out)⟩
                  case measure => simp [intOf]; omega
                · obtain rfl : k = 4 := by omega
                  clear hlt2
                  go_wp2_with fail
                  go_roundw
                  case rel =>
                    rcases HK1.out with ⟨rfl, rfl, h3⟩ | ⟨rfl, h2, h3⟩
                    · refine ⟨p + 1, 0, [], u, _, 0, hlt, by go_num, by omega, ?_, HS1, ?_, Lib.hid (.inl ⟨rfl, ?_⟩), HB1⟩
                      · exact Lib.hid (fun _ => by simp; omega)
                      · rw [HN.out]; exact Lib.hid (fun _ => GR.none_ _ _ _ _)
                      · have := HT.out
                        rw [if_neg (by omega)] at this
                        exact this
                    · refine ⟨p + 1, 0, [], u, out', 7, hlt, by go_num, by omega, Lib.hid (fun h => absurd h (by decide)), HS1, Lib.hid (fun h => absurd h (by decide)), Lib.hid (.inr ⟨by decide, ?_⟩), HB1⟩
                      · have := HT.out
                        rw [if_pos h2] at this
                        exact this.symm
                  case measure => simp [intOf]; omega
            · rw [if_neg (by rw [HGL.out]; exact h122)] at hT
              by_cases hrg : z < 33 ∨ 117 < z
              · rw [if_pos hrg] at hT
                have HT := Lib.hid hT
                have HF := Lib.hid (skfail0 w.heap.size w.heap.size M 4 v out wr HS.out)
                have h3 : (z = 122 ∧ ¬ gl = 0) ∨ ((z == 122) = false ∧ z < 33) ∨ ((z == 122) = false ∧ 33 ≤ z ∧ 117 < z) := by
                  by_cases h1 : z = 122
                  · exact .inl ⟨h1, fun h2 => h122 ⟨h1, h2⟩⟩
                  · rw [beq_eq_false_iff_ne.2 h1]
                    simp only [true_and]
                    omega
                clear hby hc hzz hw h126 hT h122 hrg
                rcases h3 with ⟨rfl, h5⟩ | ⟨h5, h6⟩ | ⟨h5, h6, h7⟩
                · have h5b : ((gl : Int) == 0) = false := beq_eq_false_iff_ne.2 (by omega)
                  go_wp2_with (first
                    | (go_at_call 20; refine (HWH.out _).mono ?_; (rintro r w2 ⟨rfl, rfl⟩))
                    | (go_at_call 32; refine HF.out.mono ?_; (rintro r w2 ⟨rfl, hs2, hb2⟩); have HS2 := Lib.hid hs2; have HB2 := Lib.hid (HBE.out.trans hb2); clear hs2 hb2))
                  go_roundw
                  case rel => exact ⟨p + 1, gl, g, v, out, 4, hlt, by go_num, hgl, Lib.hid (fun h => absurd h (by decide)), HS2, Lib.hid (fun h => absurd h (by decide)), Lib.hid (.inr ⟨by decide, HT.out.symm⟩), HB2⟩
                  case measure => simp [intOf]; omega
                all_goals
                  go_wp2_with (first
                    | (go_at_call 20; refine (HWH.out _).mono ?_; (rintro r w2 ⟨rfl, rfl⟩))
                    | (go_at_call 32; refine HF.out.mono ?_; (rintro r w2 ⟨rfl, hs2, hb2⟩); have HS2 := Lib.hid hs2; have HB2 := Lib.hid (HBE.out.trans hb2); clear hs2 hb2))
                  go_roundw
                  case rel => exact ⟨p + 1, gl, g, v, out, 4, hlt, by go_num, hgl, Lib.hid (fun h => absurd h (by decide)), HS2, Lib.hid (fun h => absurd h (by decide)), Lib.hid (.inr ⟨by decide, HT.out.symm⟩), HB2⟩
                  case measure => simp [intOf]; omega
              · rw [if_neg hrg] at hT
                have r1 : 33 ≤ z := by omega
                have r2 : z ≤ 117 := by omega
                have r3 : (z == 122) = false := beq_eq_false_iff_ne.2 (by omega)
                have HRM := Lib.hid (HGR.out.room HS.out (z - 33) (by omega) (by omega))
                by_cases h4 : gl = 4
                · rw [if_pos (by rw [HGL.out]; exact h4)] at hT
                  subst h4
                  have HT := Lib.hid hT
                  have HGP := Lib.hid (fun W u gg Ag cg (hs : Snk W w.heap.size w.heap.size u out M 0) (hr : RowI W w.heap.size (.slice Ag 5 cg) 5 gg) (hg : NumI W W.heap.size Ag 5 cg gg) (hd : ∀ d ∈ gg, 0 ≤ d ∧ d ≤ 84) => skgroup w.heap.size w.heap.size M 5 cg W.heap.size Ag u gg out W hs hg (Nat.le_refl _) (by omega) (by omega) hd HO.out hom)
                  clear hby hc hzz hw h126 hT h122 hrg
                  go_wp2_with (first
                    | (go_at_call 20; refine (HWH.out _).mono ?_; (rintro r w2 ⟨rfl, rfl⟩))
                    | (at_builtin; obtain ⟨v6, w6, hrun, hg6, hs6, hb6, A6, c6, rfl⟩ := HRM.out; refine Lib.wpList_append_run_sl _ rfl (.tmp 33) (.tmp 36) 62 rfl _ _ rfl rfl hrun ?_; clear hrun; have HG6 := Lib.hid hg6; have HS6 := Lib.hid hs6; have HB6 := Lib.hid (HBE.out.trans hb6); obtain ⟨A7, c7, e7, hn7, _⟩ := hg6.row.nums; injection e7 with e7 e8 e9; subst e7 e9; have HN7 := Lib.hid hn7; clear hg6 hs6 hb6 hn7)
                    | (go_at_call 33; refine (HGP.out _ _ _ _ _ HS6.out HG6.out.row HN7.out HG6.out.rng).mono ?_; (rintro r w2 ⟨rfl, u2, out2, b2, hs2, hg2, hb2⟩); have HS2 := Lib.hid hs2; have HG2 := Lib.hid hg2; have HB2 := Lib.hid (HB6.out.trans hb2); clear hs2 hg2 hb2))
                  go_roundw
                  case rel =>
                    rcases HG2.out with ⟨rfl, h3⟩ | ⟨h2, h3, h4⟩
                    · have := HT.out
                      rw [h3, if_pos rfl] at this
                      have hgl2 := grp_len2 M _ out out2 h3
                      exact ⟨p + 1, 0, [], u2, out2, 0, hlt, by go_num, by omega, Lib.hid (fun _ => ⟨hgl2.1, by omega⟩), HS2, Lib.hid (fun _ => GR.none_ _ _ _ _), Lib.hid (.inl ⟨rfl, this⟩), HB2⟩
                    · have := HT.out
                      rw [h3, if_neg h2] at this
                      exact ⟨p + 1, 0, [], u2, out2, b2, hlt, by go_num, by omega, Lib.hid (fun h => absurd h h2), HS2, Lib.hid (fun h => absurd h h2), Lib.hid (.inr ⟨h2, this.symm⟩), HB2⟩
                  case measure => simp [intOf]; omega
                · rw [if_neg (by rw [HGL.out]; exact h4)] at hT
                  have HT := Lib.hid hT
                  have h4b : ¬ ((gl : Int) + 1 = 5) := by omega
                  have h4c : ((gl : Int) + 1 == 5) = false := beq_eq_false_iff_ne.2 h4b
                  clear hby hc hzz hw h126 hT h122 hrg
                  go_wp2_with (first
                    | (go_at_call 20; refine (HWH.out _).mono ?_; (rintro r w2 ⟨rfl, rfl⟩))
                    | (at_builtin; obtain ⟨v6, w6, hrun, hg6, hs6, hb6, A6, c6, rfl⟩ := HRM.out; refine Lib.wpList_append_run_sl _ rfl (.tmp 33) (.tmp 36) 62 rfl _ _ rfl rfl hrun ?_; clear hrun; have HG6 := Lib.hid hg6; have HS6 := Lib.hid hs6; have HB6 := Lib.hid (HBE.out.trans hb6); clear hg6 hs6 hb6))
                  go_roundw
                  case rel => exact ⟨p + 1, gl + 1, _, v, out, 0, hlt, by go_num, by omega, Lib.hid (fun _ => ⟨hom, by omega⟩), HS6, Lib.hid (fun _ => HG6.out), Lib.hid (.inl ⟨rfl, HT.out⟩), HB6⟩
                  case measure => simp [intOf]; omega
        · rw [hw, if_pos rfl] at hT
          rw [hw] at HWH
          have HT := Lib.hid hT
          clear hby hc hzz hw hT
          go_wp2_with (first
            | (go_at_call 20; refine (HWH.out _).mono ?_; (rintro r w2 ⟨rfl, rfl⟩)))
          go_roundw
          case rel => exact ⟨p + 1, gl, g, v, out, 0, hlt, by go_num, hgl, Lib.hid (fun _ => ⟨hom, by omega⟩), HS, Lib.hid (fun _ => HGR.out), Lib.hid (.inl ⟨rfl, HT.out⟩), HBE⟩
          case measure => simp [intOf]; omega
      · obtain rfl : p = n := by omega
        rw [List.drop_of_length_le (by rw [HL.out]; exact Nat.le_refl _)] at hT
        have hR2 : ([], (2 : Int)) = R := hT
        subst hR2
        have HF := Lib.hid (fun W hW => skfail0 w.heap.size w.heap.size M 2 v out W hW)
        have HOT := Lib.hid (fun W hW => skout1 w.heap.size w.heap.size M 2 v out W hW (by decide))
        clear hT hlt
        go_wp2_with (first
          | (go_at_call 32; refine (HF.out _ HS.out).mono ?_; (rintro r w2 ⟨rfl, hs2, hb2⟩); have HS2 := Lib.hid hs2; have HB2 := Lib.hid (HBE.out.trans hb2); clear hs2 hb2)
          | (go_at_call 31; refine (HOT.out _ HS2.out).mono ?_; (rintro r w3 ⟨rfl, q, hq⟩); subst hq))
        go_ret2
        exact ReadPost.of_bad 2 (below_drewN HB2.out _)
    · have hbz : (bad == 0) = false := beq_eq_false_iff_ne.2 hbad
      have hR2 : R = ([], bad) := by
        rcases HT.out with ⟨h, _⟩ | ⟨_, h⟩
        · exact absurd h hbad
        · exact h
      subst hR2
      have HF := Lib.hid (fun W hW => skfail1 w.heap.size w.heap.size M bad 2 v out W hW hbad)
      have HOT := Lib.hid (fun W hW => skout1 w.heap.size w.heap.size M bad v out W hW hbad)
      clear HT HG HOM hbad
      by_cases hlt : p < n
      all_goals
        have hpn : (p : Int) < n ∨ ¬ (p : Int) < n := by omega
        go_wp2_with (first
          | (go_at_call 32; refine (HF.out _ HS.out).mono ?_; (rintro r w2 ⟨rfl, hs2, hb2⟩); have HS2 := Lib.hid hs2; have HB2 := Lib.hid (HBE.out.trans hb2); clear hs2 hb2)
          | (go_at_call 31; refine (HOT.out _ HS2.out).mono ?_; (rintro r w3 ⟨rfl, q, hq⟩); subst hq))
        go_ret2
        exact ReadPost.of_bad bad (below_drewN HB2.out _)
end Go.Proofs.Ytnonldlddgankaa
