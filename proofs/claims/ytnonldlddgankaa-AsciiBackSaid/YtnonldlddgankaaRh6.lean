/- Chapter 6, the document's own Unhex. -/
import Derived.Test.YtnonldlddgankaaRu6
import Derived.Deep.Cut
import Derived.Deep.CutBlock
import Derived.Deep.LoopGhost
namespace Go.Proofs.Ytnonldlddgankaa
open Go.RowKit
set_option linter.unusedVariables false
set_option maxRecDepth 100000

/-- What is still to come of a sink's answer. -/
def StS (now : List Int × Int) (bad : Int) (R : List Int × Int) : Prop := (bad = 0 ∧ now = R) ∨ (¬ bad = 0 ∧ R = ([], bad))
/-- What a reader answers: the bytes in new memory, its error. -/
def ReadPost (w : World) (R : List Int × Int) (r : Ending) (w' : World) : Prop := ∃ A c, r = .returned (.tuple #[.slice A R.1.length c, .int .i64 R.2]) ∧ Byt w' w'.heap.size A R.1.length c R.1 ∧ Below w.heap.size w w' ∧ From w.heap.size A R.1.length
theorem Mine.from_ {w : World} {base p c : Nat} {A : Option Addr} {zs : List Int} (h : Mine w base (.slice A p c) p zs) : From base A p := fun hp b o e => by
  rcases h.own.2 with ⟨_, h0⟩ | ⟨g, cap, cur, e2, hb, _⟩
  · omega
  · injection e2 with e2
    rw [e] at e2
    injection e2 with e2
    injection e2 with e2
    omega
theorem ReadPost.of_row {w w' : World} {v : Value} {out : List Int} (hb : Below w.heap.size w w') (h : Mine w' w.heap.size v out.length out) : ReadPost w (out, 0) (.returned (.tuple #[v, .int .i64 0])) w' := by
  obtain ⟨A, c, rfl, hy⟩ := h.byt
  exact ⟨A, c, rfl, hy, hb, h.from_⟩
theorem ReadPost.of_bad {w w' : World} (e : Int) (hb : Below w.heap.size w w') : ReadPost w ([], e) (.returned (.tuple #[.slice none 0 0, .int .i64 e])) w' :=
  ⟨none, 0, rfl, Byt.none_ _ _, hb, fun h => absurd h (Nat.not_lt_zero _)⟩
theorem drop_atZ (zs : List Int) (p : Nat) (h : p < zs.length) : zs.drop p = zs.getD p 0 :: zs.drop (p + 1) := by
  rw [List.drop_eq_getElem_cons h, getD_eq zs p h]

theorem skput_ok (base ks M : Nat) (v : Value) (out : List Int) (w : World) (h : Snk w base ks v out M 0) (hlt : out.length < M) (hm : out.length ≤ 100000000) (z : Int) (hz : 0 ≤ z ∧ z < 256) :
    Calls Try.prog 30 #[.pointer (some ⟨ks, 0, none⟩), .int .u8 z] w fun r w' => r = .returned (.tuple #[]) ∧ ∃ v', Snk w' base ks v' (out ++ [z]) M 0 ∧ Below base w w' := by
  have := skput base ks M 0 z v out w h hz hm
  unfold skO skE at this
  rw [if_pos ⟨rfl, hlt⟩, if_neg (by omega)] at this
  exact this
theorem skput_no (base ks M : Nat) (v : Value) (out : List Int) (w : World) (h : Snk w base ks v out M 0) (hlt : M ≤ out.length) (hm : out.length ≤ 100000000) (z : Int) (hz : 0 ≤ z ∧ z < 256) :
    Calls Try.prog 30 #[.pointer (some ⟨ks, 0, none⟩), .int .u8 z] w fun r w' => r = .returned (.tuple #[]) ∧ ∃ v', Snk w' base ks v' out M 7 ∧ Below base w w' := by
  have := skput base ks M 0 z v out w h hz hm
  unfold skO skE at this
  rw [if_neg (by omega), if_pos ⟨rfl, hlt⟩] at this
  exact this
theorem skfail0 (base ks M : Nat) (e : Int) (v : Value) (out : List Int) (w : World) (h : Snk w base ks v out M 0) :
    Calls Try.prog 32 #[.pointer (some ⟨ks, 0, none⟩), .int .i64 e] w fun r w' => r = .returned (.tuple #[]) ∧ Snk w' base ks v out M e ∧ Below base w w' := by
  have := skfail base ks M 0 e v out w h
  rw [if_pos rfl] at this
  exact this
theorem skfail1 (base ks M : Nat) (bad e : Int) (v : Value) (out : List Int) (w : World) (h : Snk w base ks v out M bad) (hb : ¬ bad = 0) :
    Calls Try.prog 32 #[.pointer (some ⟨ks, 0, none⟩), .int .i64 e] w fun r w' => r = .returned (.tuple #[]) ∧ Snk w' base ks v out M bad ∧ Below base w w' := by
  have := skfail base ks M bad e v out w h
  rw [if_neg hb] at this
  exact this
set_option maxHeartbeats 4000000 in
theorem refUnhex (A : Option Addr) (n c : Nat) (most : Int) (zs : List Int) (w : World) (hb : Byt w w.heap.size A n c zs) (hn : n ≤ 1000000) (m0 : -9223372036854775808 ≤ most) (m1 : most ≤ 9223372036854775807) (R : List Int × Int) (hR : unhxR (max most 0).toNat zs (-1) [] = R) :
    Calls Try.prog 16 #[.slice A n c, .int .i64 most] w (ReadPost w R) := by
  have HB := Lib.hid hb
  have HL := Lib.hid hb.len
  obtain ⟨M, hM⟩ : ∃ M : Nat, (max most 0).toNat = M := ⟨_, rfl⟩
  rw [hM] at hR
  have HR := Lib.hid hR
  have hM2 : max most 0 = (M : Int) := by omega
  clear hM
  have HS0 := Lib.hid (Snk.new w w.heap.size M (Nat.le_refl _))
  clear hb hR
  go_enter Try.func16, Try.ntmps16
  go_wp2_with fail
  go_loopw [7, 8] (fun hv iv wr => ∃ (p : Nat) (h : Int) (v : Value) (out : List Int) (bad : Int), p ≤ n ∧ iv = .int .i64 p ∧ hv = .int .i64 h ∧ -1 ≤ h ∧ h ≤ 15 ∧ out.length ≤ p ∧ Hid (Snk wr w.heap.size w.heap.size v out M bad) ∧ Hid (StS (unhxR M (zs.drop p) h out) bad R) ∧ Hid (Below w.heap.size w wr)) (fun _ iv _ => n - (intOf iv).toNat)
  case atStart => exact ⟨0, -1, _, [], 0, Nat.zero_le _, rfl, rfl, by omega, by omega, Nat.zero_le _, HS0, Lib.hid (.inl ⟨rfl, HR.out⟩), Lib.hid ((Below.refl _ _).alloc (Nat.le_refl _) _)⟩
  case round =>
    obtain ⟨p, h, v, out, bad, hp, rfl, rfl, h0, h1, hol, HS, HT, HBE⟩ := hrel
    have c2 := HS.out.c2
    by_cases hbad : bad = 0
    · subst hbad
      have hT : unhxR M (zs.drop p) h out = R := by
        rcases HT.out with ⟨_, h⟩ | ⟨h, _⟩
        · exact h
        · exact absurd rfl h
      clear HT
      by_cases hlt : p < n
      · rw [drop_atZ zs p (by rw [HL.out]; exact hlt)] at hT
        have hby := HB.out.below HBE.out (Nat.le_refl _)
        have hz := HB.out.getD p
        obtain ⟨b, o, rfl, _, hc⟩ := hby.cell (by omega)
        have ck := hc p hlt
        obtain ⟨z, hzz⟩ : ∃ z, zs.getD p 0 = z := ⟨_, rfl⟩
        rw [hzz] at ck hz hT
        obtain ⟨z0, z1⟩ := hz
        rw [unhxR] at hT
        have hpn : (p : Int) < n := by omega
        have HO := Lib.hid (show out.length ≤ 100000000 by omega)
        have HWH := Lib.hid (fun W => rwhite z W)
        have HDG := Lib.hid (fun W => rdigit z W)
        rcases hw : whB z with _ | _
        · rw [hw, if_neg (by decide)] at hT
          rw [hw] at HWH
          by_cases h62 : z = 62
          · rw [if_pos h62] at hT
            subst h62
            by_cases hh : h < 0
            · rw [if_pos hh] at hT
              subst hT
              have HOT := Lib.hid (fun W hW => skout0 w.heap.size w.heap.size M v out W hW)
              clear hby hc hzz hw
              go_wp2_with (first
                | (go_at_call 20; refine (HWH.out _).mono ?_; (rintro r w2 ⟨rfl, rfl⟩))
                | (go_at_call 31; refine (HOT.out _ HS.out).mono ?_; (rintro r w3 ⟨rfl, q, hq⟩); subst hq))
              go_ret2
              exact ReadPost.of_row (below_drewN HBE.out _) (HS.out.row.drewN _)
            · rw [if_neg hh] at hT
              have hh2 : 0 ≤ h := by omega
              by_cases hM : M ≤ out.length
              · rw [if_pos hM] at hT
                subst hT
                have HP := Lib.hid (skput_no w.heap.size w.heap.size M v out wr HS.out hM HO.out)
                have HOT := Lib.hid (fun W u hW => skout1 w.heap.size w.heap.size M 7 u out W hW (by decide))
                clear hby hc hzz hw hM
                go_wp2_with (first
                  | (go_at_call 20; refine (HWH.out _).mono ?_; (rintro r w2 ⟨rfl, rfl⟩))
                  | (go_at_call 30; refine (HP.out _ (by omega)).mono ?_; (rintro r w2 ⟨rfl, u2, hs2, hb2⟩); have HS2 := Lib.hid hs2; have HB2 := Lib.hid (HBE.out.trans hb2); clear hs2 hb2)
                  | (go_at_call 31; refine (HOT.out _ _ HS2.out).mono ?_; (rintro r w3 ⟨rfl, q, hq⟩); subst hq))
                go_ret2
                exact ReadPost.of_bad 7 (below_drewN HB2.out _)
              · rw [if_neg hM] at hT
                subst hT
                have HP := Lib.hid (skput_ok w.heap.size w.heap.size M v out wr HS.out (by omega) HO.out)
                have HOT := Lib.hid (fun W u x hW => skout0 w.heap.size w.heap.size M u (out ++ [x]) W hW)
                have h16 : h * 16 < 256 := by omega
                have h16' : 0 ≤ h * 16 := by omega
                clear hby hc hzz hw hM
                go_wp2_with (first
                  | (go_at_call 20; refine (HWH.out _).mono ?_; (rintro r w2 ⟨rfl, rfl⟩))
                  | (go_at_call 30; refine (HP.out _ (by omega)).mono ?_; (rintro r w2 ⟨rfl, u2, hs2, hb2⟩); have HS2 := Lib.hid hs2; have HB2 := Lib.hid (HBE.out.trans hb2); clear hs2 hb2)
                  | (go_at_call 31; refine (HOT.out _ _ _ HS2.out).mono ?_; (rintro r w3 ⟨rfl, q, hq⟩); subst hq))
                go_ret2
                exact ReadPost.of_row (below_drewN HB2.out _) (HS2.out.row.drewN _)
          · rw [if_neg h62] at hT
            have h62b : (z == 62) = false := beq_eq_false_iff_ne.2 h62
            have hdb := dgZ_bd z
            obtain ⟨d, hd⟩ : ∃ d, dgZ z = d := ⟨_, rfl⟩
            rw [hd] at hT HDG hdb
            obtain ⟨d0, d1⟩ := hdb
            by_cases hd0 : d < 0
            · rw [if_pos hd0] at hT
              have HT := Lib.hid hT
              have HF := Lib.hid (skfail0 w.heap.size w.heap.size M 4 v out wr HS.out)
              clear hby hc hzz hw h62 hT hd
              go_wp2_with (first
                | (go_at_call 20; refine (HWH.out _).mono ?_; (rintro r w2 ⟨rfl, rfl⟩))
                | (go_at_call 21; refine (HDG.out _).mono ?_; (rintro r w2 ⟨rfl, rfl⟩))
                | (go_at_call 32; refine HF.out.mono ?_; (rintro r w2 ⟨rfl, hs2, hb2⟩); have HS2 := Lib.hid hs2; have HB2 := Lib.hid (HBE.out.trans hb2); clear hs2 hb2))
              go_roundw
              case rel => exact ⟨p + 1, h, v, out, 4, hlt, by go_num, rfl, h0, h1, by omega, HS2, Lib.hid (.inr ⟨by decide, HT.out.symm⟩), HB2⟩
              case measure => simp [intOf]; omega
            · rw [if_neg hd0] at hT
              have hd2 : 0 ≤ d := by omega
              by_cases hh : h < 0
              · rw [if_pos hh] at hT
                have HT := Lib.hid hT
                clear hby hc hzz hw h62 hT hd
                go_wp2_with (first
                  | (go_at_call 20; refine (HWH.out _).mono ?_; (rintro r w2 ⟨rfl, rfl⟩))
                  | (go_at_call 21; refine (HDG.out _).mono ?_; (rintro r w2 ⟨rfl, rfl⟩)))
                go_roundw
                case rel => exact ⟨p + 1, d, v, out, 0, hlt, by go_num, rfl, by omega, by omega, by omega, HS, Lib.hid (.inl ⟨rfl, HT.out⟩), HBE⟩
                case measure => simp [intOf]; omega
              · rw [if_neg hh] at hT
                have hh2 : 0 ≤ h := by omega
                have e1 : 0 ≤ h * 16 + d := by omega
                have e2 : h * 16 + d < 256 := by omega
                by_cases hM : M ≤ out.length
                · rw [if_pos hM] at hT
                  have HT := Lib.hid hT
                  have HP := Lib.hid (skput_no w.heap.size w.heap.size M v out wr HS.out hM HO.out)
                  clear hby hc hzz hw h62 hT hd hM
                  go_wp2_with (first
                    | (go_at_call 20; refine (HWH.out _).mono ?_; (rintro r w2 ⟨rfl, rfl⟩))
                    | (go_at_call 21; refine (HDG.out _).mono ?_; (rintro r w2 ⟨rfl, rfl⟩))
                    | (go_at_call 30; refine (HP.out _ (by omega)).mono ?_; (rintro r w2 ⟨rfl, u2, hs2, hb2⟩); have HS2 := Lib.hid hs2; have HB2 := Lib.hid (HBE.out.trans hb2); clear hs2 hb2))
                  go_roundw
                  case rel => exact ⟨p + 1, -1, _, out, 7, hlt, by go_num, rfl, by omega, by omega, by omega, HS2, Lib.hid (.inr ⟨by decide, HT.out.symm⟩), HB2⟩
                  case measure => simp [intOf]; omega
                · rw [if_neg hM] at hT
                  have HT := Lib.hid hT
                  have HP := Lib.hid (skput_ok w.heap.size w.heap.size M v out wr HS.out (by omega) HO.out)
                  clear hby hc hzz hw h62 hT hd hM
                  go_wp2_with (first
                    | (go_at_call 20; refine (HWH.out _).mono ?_; (rintro r w2 ⟨rfl, rfl⟩))
                    | (go_at_call 21; refine (HDG.out _).mono ?_; (rintro r w2 ⟨rfl, rfl⟩))
                    | (go_at_call 30; refine (HP.out _ (by omega)).mono ?_; (rintro r w2 ⟨rfl, u2, hs2, hb2⟩); have HS2 := Lib.hid hs2; have HB2 := Lib.hid (HBE.out.trans hb2); clear hs2 hb2))
                  go_roundw
                  case rel => exact ⟨p + 1, -1, _, _, 0, hlt, by go_num, rfl, by omega, by omega, by simp; omega, HS2, Lib.hid (.inl ⟨rfl, HT.out⟩), HB2⟩
                  case measure => simp [intOf]; omega
        · rw [hw, if_pos rfl] at hT
          rw [hw] at HWH
          have HT := Lib.hid hT
          clear hby hc hzz hw hT
          go_wp2_with (first
            | (go_at_call 20; refine (HWH.out _).mono ?_; (rintro r w2 ⟨rfl, rfl⟩)))
          go_roundw
          case rel => exact ⟨p + 1, h, v, out, 0, hlt, by go_num, rfl, h0, h1, by omega, HS, Lib.hid (.inl ⟨rfl, HT.out⟩), HBE⟩
          case measure => simp [intOf]; omega
      · obtain rfl : p = n := by omega
        rw [List.drop_of_length_le (by rw [HL.out]; exact Nat.le_refl _)] at hT
        have hR2 : ([], (2 : Int)) = R := hT
        subst hR2
        have HF := Lib.hid (fun W hW => skfail0 w.heap.size w.heap.size M 2 v out W hW)
        have HOT := Lib.hid (fun W hW => skout1 w.heap.size w.heap.size M 2 v out W hW (by decide))
        clear hT hlt
        go_wp2_with (first
          | (go_at_call 32; refine (HF.out _ HS.out).mono ?_; (rintro r w2 ⟨rfl, hs2, hb2⟩); have HS2 := Lib.hid hs2; have HB2 := Lib.hid (HBE.out.trans hb2); clear hs2 hb2)
          | (go_at_call 31; refine (HOT.out _ HS2.out).mono ?_; (rintro r w3 ⟨rfl, q, hq⟩); subst hq))
        go_ret2
        exact ReadPost.of_bad 2 (below_drewN HB2.out _)
    · have hbz : (bad == 0) = false := beq_eq_false_iff_ne.2 hbad
      have hR2 : R = ([], bad) := by
        rcases HT.out with ⟨h, _⟩ | ⟨_, h⟩
        · exact absurd h hbad
        · exact h
      subst hR2
      have HF := Lib.hid (fun W hW => skfail1 w.heap.size w.heap.size M bad 2 v out W hW hbad)
      have HOT := Lib.hid (fun W hW => skout1 w.heap.size w.heap.size M bad v out W hW hbad)
      clear HT hbad
      by_cases hlt : p < n
      all_goals
        have hpn : (p : Int) < n ∨ ¬ (p : Int) < n := by omega
        go_wp2_with (first
          | (go_at_call 32; refine (HF.out _ HS.out).mono ?_; (rintro r w2 ⟨rfl, hs2, hb2⟩); have HS2 := Lib.hid hs2; have HB2 := Lib.hid (HBE.out.trans hb2); clear hs2 hb2)
          | (go_at_call 31; refine (HOT.out _ HS2.out).mono ?_; (rintro r w3 ⟨rfl, q, hq⟩); subst hq))
        go_ret2
        exact ReadPost.of_bad bad (below_drewN HB2.out _)
end Go.Proofs.Ytnonldlddgankaa
