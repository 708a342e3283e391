/- Chapter 7, the document's own RunsDecode. -/
import Derived.Test.YtnalaenanopnbaaRw7
namespace Go.Proofs.Ytnalaenanopnbaa
open Go.RowKit
set_option linter.unusedVariables false
set_option maxRecDepth 100000

theorem StS.bad {now now' : List Int × Int} {bad : Int} {R : List Int × Int} (h : StS now bad R) (hb : ¬ bad = 0) : StS now' bad R := by
  rcases h with ⟨h, _⟩ | h
  · exact absurd h hb
  · exact .inr h
theorem StS.ok {now : List Int × Int} {R : List Int × Int} (h : StS now 0 R) : now = R := by
  rcases h with ⟨_, h⟩ | ⟨h, _⟩
  · exact h
  · exact absurd rfl h
theorem skput_bad (base ks M : Nat) (bad : Int) (v : Value) (out : List Int) (w : World) (h : Snk w base ks v out M bad) (hb : ¬ bad = 0) (hm : out.length ≤ 100000000) (z : Int) (hz : 0 ≤ z ∧ z < 256) :
    Calls Try.prog 21 #[.pointer (some ⟨ks, 0, none⟩), .int .u8 z] w fun r w' => r = .returned (.tuple #[]) ∧ ∃ v', Snk w' base ks v' out M bad ∧ Below base w w' := by
  have := skput base ks M bad z v out w h hz hm
  unfold skO skE at this
  rw [if_neg (fun h => hb h.1), if_neg (fun h => hb h.1)] at this
  exact this
set_option maxHeartbeats 8000000 in
theorem refDecode (A : Option Addr) (n c : Nat) (most : Int) (zs : List Int) (w : World) (hb : Byt w w.heap.size A n c zs) (hn : n ≤ 100000) (m0 : -9223372036854775808 ≤ most) (m1 : most ≤ 9223372036854775807) (R : List Int × Int) (hR : rdR (max most 0).toNat zs 0 [] = R) :
    Calls Try.prog 11 #[.slice A n c, .int .i64 most] w (ReadPost w R) := by
  have HB := Lib.hid hb
  have HL := Lib.hid hb.len
  obtain ⟨M, hM⟩ : ∃ M : Nat, (max most 0).toNat = M := ⟨_, rfl⟩
  rw [hM] at hR
  have HR := Lib.hid hR
  have hM2 : max most 0 = (M : Int) := by omega
  clear hM
  have HS0 := Lib.hid (Snk.new w w.heap.size M (Nat.le_refl _))
  clear hb hR
  go_enter Try.func11, Try.ntmps11
  go_wp2_with fail
  go_loopw [7, 8, 9, 10, 11, 12] (fun av s8 s9 s10 s11 s12 wr => ∃ (p : Nat) (v : Value) (out : List Int) (bad : Int), p ≤ n + 2 ∧ av = .int .i64 p ∧ Hid (out.length ≤ 128 * p ∧ out.length ≤ M ∧ (bad = 0 → p ≤ n)) ∧ Hid (Snk wr w.heap.size w.heap.size v out M bad) ∧ Hid (StS (rdR M (zs.drop p) 0 out) bad R) ∧ Hid (Below w.heap.size w wr)) (fun av _ _ _ _ _ _ => n + 3 - (intOf av).toNat)
  case atStart => exact ⟨0, _, [], 0, by omega, rfl, Lib.hid ⟨by simp, by simp, fun _ => Nat.zero_le _⟩, HS0, Lib.hid (.inl ⟨rfl, HR.out⟩), Lib.hid ((Below.refl _ _).alloc (Nat.le_refl _) _)⟩
  case round =>
    obtain ⟨p, v, out, bad, hp, rfl, HO, HS, HT, HBE⟩ := hrel
    have c2 := HS.out.c2
    by_cases hbad : bad = 0
    · subst hbad
      have hT := HT.out.ok
      have hpn := HO.out.2.2 rfl
      clear HT
      have HOL := Lib.hid (show out.length ≤ 100000000 by have := HO.out.1; omega)
      by_cases hlt : p < n
      · rw [drop_atZ zs p (by rw [HL.out]; exact hlt)] at hT
        have hby := HB.out.below HBE.out (Nat.le_refl _)
        have hz := HB.out.getD p
        have hpk := refPeek_in A n c _ zs p wr hby hlt (by omega)
        rw [peekZ_in zs p (by rw [HL.out]; exact hlt)] at hpk
        obtain ⟨z, hzz⟩ : ∃ z, zs.getD p 0 = z := ⟨_, rfl⟩
        rw [hzz] at hpk hz hT
        obtain ⟨z0, z1⟩ := hz
        have HPK := Lib.hid hpk
        have hz0 : ¬ z < 0 := by omega
        clear hby hzz hpk
        by_cases h128 : z = 128
        · subst h128
          rw [rd_end] at hT
          subst hT
          have HOT := Lib.hid (fun W hW => skout0 w.heap.size w.heap.size M v out W hW)
          go_wp2_with (first
            | (go_at_call 18; refine HPK.out.mono ?_; (rintro r w2 ⟨rfl, rfl⟩))
            | (go_at_call 20; refine (HOT.out _ HS.out).mono ?_; (rintro r w3 ⟨rfl, q, hq⟩); subst hq))
          go_ret2
          exact ReadPost.of_row (below_drewN HBE.out _) (HS.out.row.drewN _)
        · have h128b : (z == 128) = false := beq_eq_false_iff_ne.2 h128
          by_cases h1 : z < 128
          · obtain ⟨Z, rfl⟩ : ∃ Z : Nat, z = Z := ⟨z.toNat, by omega⟩
            rw [rd_few M _ _ _ z0 h1, Int.toNat_natCast] at hT
            have HT := Lib.hid hT
            have hZ : Z < 128 := by omega
            clear hT
            go_upto_region 20 with (go_at_call 18; refine HPK.out.mono ?_; (rintro r w2 ⟨rfl, rfl⟩))
            go_loopw [7, 9, 10] (fun av kv cv wk => ∃ (k p2 : Nat) (v2 : Value) (out2 : List Int) (bad2 : Int), k ≤ Z + 1 ∧ kv = .int .i64 k ∧ av = .int .i64 p2 ∧ Hid (p2 = p + 1 + k ∧ p2 ≤ n + 1 ∧ out2.length ≤ 128 * p + k ∧ out2.length ≤ M ∧ (bad2 = 0 → p2 ≤ n)) ∧ Hid (Snk wk w.heap.size w.heap.size v2 out2 M bad2) ∧ Hid (StS (rdR M (zs.drop p2) (Z + 1 - k) out2) bad2 R) ∧ Hid (Below w.heap.size w wk)) (fun _ kv _ _ => Z + 1 - (intOf kv).toNat)
            case atStart => exact ⟨0, p + 1, v, out, 0, Nat.zero_le _, rfl, by go_num, Lib.hid ⟨rfl, by omega, by have := HO.out; omega, HO.out.2.1, fun _ => by omega⟩, HS, Lib.hid (.inl ⟨rfl, HT.out⟩), HBE⟩
            case round =>
              obtain ⟨k, p2, v2, out2, bad2, hk, rfl, rfl, HO2, HS2, HT2, HB2⟩ := hrel
              have d2 := HS2.out.c2
              have hp2 := HO2.out.2.1
              have HOM := Lib.hid (show out2.length ≤ 100000000 by have := HO2.out; omega)
              by_cases hgo : k ≤ Z ∧ bad2 = 0
              · obtain ⟨hkZ, rfl⟩ := hgo
                have hT2 := HT2.out.ok
                have hkz : (k : Int) ≤ Z := by omega
                have hpn2 := HO2.out.2.2.2.2 rfl
                rw [show Z + 1 - k = (Z - k) + 1 by omega] at hT2
                by_cases hl2 : p2 < n
                · rw [drop_atZ zs p2 (by rw [HL.out]; exact hl2), rd_lit] at hT2
                  have hby := HB.out.below HB2.out (Nat.le_refl _)
                  have hz2 := HB.out.getD p2
                  have hpk := refPeek_in A n c _ zs p2 _ hby hl2 (by omega)
                  rw [peekZ_in zs p2 (by rw [HL.out]; exact hl2)] at hpk
                  obtain ⟨y, hyy⟩ : ∃ y, zs.getD p2 0 = y := ⟨_, rfl⟩
                  rw [hyy] at hpk hz2 hT2
                  obtain ⟨y0, y1⟩ := hz2
                  have HPK2 := Lib.hid hpk
                  have hy0 : ¬ y < 0 := by omega
                  clear hby hyy hpk HT2
                  by_cases hM : out2.length < M
                  · rw [if_pos hM] at hT2
                    have HT3 := Lib.hid hT2
                    have HPU := Lib.hid (skput_ok _ _ M v2 out2 _ HS2.out hM HOM.out y ⟨y0, y1⟩)
                    clear hT2
                    go_wp2_with (first
                      | (go_at_call 18; with_reducible refine HPK2.out.mono ?_; (rintro r w2 ⟨rfl, rfl⟩))
                      | (go_at_call 21; refine HPU.out.mono ?_; (rintro r w3 ⟨rfl, v3, hs3, hb3⟩); have HS3 := Lib.hid hs3; have HB3 := Lib.hid (HB2.out.trans hb3); clear hs3 hb3))
                    go_roundw
                    case rel => exact ⟨k + 1, p2 + 1, v3, out2 ++ [y], 0, by omega, by go_num, by go_num, Lib.hid (by have := HO2.out; rw [List.length_append]; simp only [List.length_cons, List.length_nil]; exact ⟨by omega, by omega, by omega, by omega, fun _ => by omega⟩), HS3, Lib.hid (.inl ⟨rfl, by rw [show Z + 1 - (k + 1) = Z - k by omega]; exact HT3.out⟩), HB3⟩
                    case measure => simp [intOf]; omega
                  · rw [if_neg hM] at hT2
                    have HT3 := Lib.hid hT2
                    have HPU := Lib.hid (skput_no _ _ M v2 out2 _ HS2.out (by omega) HOM.out y ⟨y0, y1⟩)
                    clear hT2
                    go_wp2_with (first
                      | (go_at_call 18; with_reducible refine HPK2.out.mono ?_; (rintro r w2 ⟨rfl, rfl⟩))
                      | (go_at_call 21; refine HPU.out.mono ?_; (rintro r w3 ⟨rfl, v3, hs3, hb3⟩); have HS3 := Lib.hid hs3; have HB3 := Lib.hid (HB2.out.trans hb3); clear hs3 hb3))
                    go_roundw
                    case rel => exact ⟨k + 1, p2 + 1, v3, out2, 7, by omega, by go_num, by go_num, Lib.hid (by have := HO2.out; exact ⟨by omega, by omega, by omega, by omega, fun h => by omega⟩), HS3, Lib.hid (.inr ⟨by decide, HT3.out.symm⟩), HB3⟩
                    case measure => simp [intOf]; omega
                · obtain rfl : p2 = n := by omega
                  rw [List.drop_of_length_le (by rw [HL.out]; exact Nat.le_refl _), rd_nil] at hT2
                  have HT3 := Lib.hid hT2
                  have hpk := fun W => refPeek_out A p2 c zs p2 W HL.out (.inr (Int.le_refl _)) (by omega)
                  simp only [peekZ_out zs p2 (by rw [HL.out]; exact .inr (Int.le_refl _))] at hpk
                  have HPK2 := Lib.hid hpk
                  have HF := Lib.hid (skfail0 _ _ M 2 v2 out2 _ HS2.out)
                  have hw : IntKind.u8.wrap (-1) = 255 := by decide
                  clear hT2 hpk HT2
                  go_wp2_with (first
                    | (go_at_call 18; with_reducible refine (HPK2.out _).mono ?_; (rintro r w2 ⟨rfl, rfl⟩))
                    | (go_at_call 19; refine HF.out.mono ?_; (rintro r w3 ⟨rfl, hs3, hb3⟩); have HS3 := Lib.hid hs3; have HB3 := Lib.hid (HB2.out.trans hb3); have HPU := Lib.hid (skput_bad _ _ M 2 v2 out2 _ hs3 (by decide) HOM.out 255 (by omega)); clear hs3 hb3)
                    | (go_at_call 21; refine HPU.out.mono ?_; (rintro r w4 ⟨rfl, v4, hs4, hb4⟩); have HS4 := Lib.hid hs4; have HB4 := Lib.hid (HB3.out.trans hb4); clear hs4 hb4))
                  go_roundw
                  case rel => exact ⟨k + 1, p2 + 1, v4, out2, 2, by omega, by go_num, by go_num, Lib.hid (by have := HO2.out; exact ⟨by omega, by omega, by omega, by omega, fun h => by omega⟩), HS4, Lib.hid (.inr ⟨by decide, HT3.out.symm⟩), HB4⟩
                  case measure => simp [intOf]; omega
              · have HEX : Hid (StS (rdR M (zs.drop p2) 0 out2) bad2 R) := Lib.hid (by
                  by_cases hb2 : bad2 = 0
                  · have := HT2.out
                    rw [show Z + 1 - k = 0 by omega] at this
                    exact this
                  · exact HT2.out.bad hb2)
                have hway : (¬ (k : Int) ≤ Z) ∨ ((k : Int) ≤ Z ∧ ¬ bad2 = 0) := by omega
                rcases hway with i1 | ⟨i1, i2⟩
                · clear hgo
                  go_wp2_with fail
                  exact ⟨⟨p2, v2, out2, bad2, by omega, rfl, Lib.hid (by have := HO2.out; exact ⟨by omega, by omega, this.2.2.2.2⟩), HS2, HEX, HB2⟩, by have := HO2.out; simp [intOf]; omega⟩
                · have i3 : (bad2 == 0) = false := beq_eq_false_iff_ne.2 i2
                  clear hgo
                  go_wp2_with fail
                  exact ⟨⟨p2, v2, out2, bad2, by omega, rfl, Lib.hid (by have := HO2.out; exact ⟨by omega, by omega, this.2.2.2.2⟩), HS2, HEX, HB2⟩, by have := HO2.out; simp [intOf]; omega⟩
          · have z128 : 128 < z := by omega
            obtain ⟨m, hm⟩ : ∃ m : Nat, (257 : Int) - z = m := ⟨(257 - z).toNat, by omega⟩
            have hmw : IntKind.i64.wrap (m : Int) = m := IntWalk.i64_in _ (by omega)
            have hm128 : m ≤ 128 := by omega
            have hstart : ∃ (cz cb bad1 : Int), IntKind.u8.wrap cz = cb ∧ (0 ≤ cb ∧ cb < 256) ∧ ((bad1 = 0 ∧ p + 1 < n ∧ 0 ≤ cz) ∨ (bad1 = 2 ∧ p + 1 = n ∧ cz = -1)) ∧ StS (repR M (zs.drop (p + 2)) cb m out) bad1 R ∧
                ∀ W, Byt W W.heap.size A n c zs → Calls Try.prog 18 #[.slice A n c, .int .i64 ((p : Int) + 1)] W fun e w' => e = .returned (.int .i64 cz) ∧ W = w' := by
              by_cases hl1 : p + 1 < n
              · rw [drop_atZ zs (p + 1) (by rw [HL.out]; exact hl1), rd_row M _ _ _ _ z128, show ((257 : Int) - z).toNat = m by omega] at hT
                have hz2 := HB.out.getD (p + 1)
                refine ⟨zs.getD (p + 1) 0, zs.getD (p + 1) 0, 0, IntWalk.u8_in _ (by omega), hz2, .inl ⟨rfl, hl1, hz2.1⟩, .inl ⟨rfl, hT⟩, fun W hW => ?_⟩
                have := refPeek_in A n c _ zs (p + 1) W hW hl1 (by omega)
                rw [peekZ_in zs (p + 1) (by rw [HL.out]; exact hl1)] at this
                exact this
              · rw [List.drop_of_length_le (by rw [HL.out]; omega), rd_row0 M _ _ z128] at hT
                refine ⟨-1, 255, 2, by decide, by omega, .inr ⟨rfl, by omega, rfl⟩, .inr ⟨by decide, hT.symm⟩, fun W hW => ?_⟩
                have := refPeek_out A n c zs ((p : Int) + 1) W HL.out (.inr (by omega)) (by omega)
                rw [peekZ_out zs ((p : Int) + 1) (by rw [HL.out]; exact .inr (by omega))] at this
                exact this
            obtain ⟨cz, cb, bad1, hcw, hcb, hcase, hst, hpk2⟩ := hstart
            have HST := Lib.hid hst
            have HPK2 := Lib.hid (hpk2 wr ((HB.out.below HBE.out (Nat.le_refl _)).more HBE.out.size))
            have HF := Lib.hid (skfail0 _ _ M 2 v out _ HS.out)
            have HCB := Lib.hid hcb
            clear hst hpk2 hT hcb
            have hprep : (bad1 = 0 ∧ p + 1 < n ∧ 0 ≤ cz) ∨ (bad1 = 2 ∧ p + 1 = n ∧ cz = -1) := hcase
            rcases hcase with ⟨rfl, hl1, hcz⟩ | ⟨rfl, hl1, rfl⟩
            all_goals
              first
                | (have hcz0 : ¬ cz < 0 := by omega
                   have HSX := HS
                   have HBX := HBE
                   clear hprep
                   go_upto_region 11 with (first | (go_at_call 18; with_reducible refine HPK.out.mono ?_; (rintro r w2 ⟨rfl, rfl⟩)) | (go_at_call 18; with_reducible refine HPK2.out.mono ?_; (rintro r w2 ⟨rfl, rfl⟩))))
                | (clear hprep
                   go_upto_region 11 with (first | (go_at_call 18; with_reducible refine HPK.out.mono ?_; (rintro r w2 ⟨rfl, rfl⟩)) | (go_at_call 18; with_reducible refine HPK2.out.mono ?_; (rintro r w2 ⟨rfl, rfl⟩)) | (go_at_call 19; refine HF.out.mono ?_; (rintro r w3 ⟨rfl, hs3, hb3⟩); have HSX := Lib.hid hs3; have HBX := Lib.hid (HBE.out.trans hb3); clear hs3 hb3)))
              go_loopw [12] (fun kv wk => ∃ (k : Nat) (v2 : Value) (out2 : List Int) (bad2 : Int), k ≤ m ∧ kv = .int .i64 k ∧ Hid (out2.length ≤ 128 * p + k ∧ out2.length ≤ M ∧ (bad2 = 0 → p + 1 < n)) ∧ Hid (Snk wk w.heap.size w.heap.size v2 out2 M bad2) ∧ Hid (StS (repR M (zs.drop (p + 2)) cb (m - k) out2) bad2 R) ∧ Hid (Below w.heap.size w wk)) (fun kv _ => m - (intOf kv).toNat)
              case atStart => exact ⟨0, _, out, _, Nat.zero_le _, rfl, Lib.hid ⟨by have := HO.out; omega, HO.out.2.1, fun h => by first | exact hl1 | exact absurd h (by decide)⟩, HSX, HST, HBX⟩
              case round =>
                obtain ⟨k, v2, out2, bad2, hk, rfl, HO2, HS2, HT2, HB2⟩ := hrel
                have HOM := Lib.hid (show out2.length ≤ 100000000 by have := HO2.out; omega)
                by_cases hkm : k < m
                · have hkmi : (k : Int) < m := by omega
                  by_cases hb2 : bad2 = 0
                  · subst hb2
                    have hT2 := HT2.out.ok
                    rw [show m - k = (m - (k + 1)) + 1 by omega, rep_step] at hT2
                    by_cases hM : out2.length < M
                    · rw [if_pos hM] at hT2
                      have HT3 := Lib.hid hT2
                      have HPU := Lib.hid (skput_ok _ _ M v2 out2 _ HS2.out hM HOM.out cb HCB.out)
                      clear hT2
                      go_wp2_with (go_at_call 21; refine HPU.out.mono ?_; (rintro r w3 ⟨rfl, v3, hs3, hb3⟩); have HS3 := Lib.hid hs3; have HB3 := Lib.hid (HB2.out.trans hb3); clear hs3 hb3)
                      go_roundw
                      case rel => exact ⟨k + 1, v3, out2 ++ [cb], 0, by omega, by go_num, Lib.hid (by have := HO2.out; rw [List.length_append]; simp only [List.length_cons, List.length_nil]; exact ⟨by omega, by omega, this.2.2⟩), HS3, Lib.hid (.inl ⟨rfl, HT3.out⟩), HB3⟩
                      case measure => simp [intOf]; omega
                    · rw [if_neg hM] at hT2
                      have HT3 := Lib.hid hT2
                      have HPU := Lib.hid (skput_no _ _ M v2 out2 _ HS2.out (by omega) HOM.out cb HCB.out)
                      clear hT2
                      go_wp2_with (go_at_call 21; refine HPU.out.mono ?_; (rintro r w3 ⟨rfl, v3, hs3, hb3⟩); have HS3 := Lib.hid hs3; have HB3 := Lib.hid (HB2.out.trans hb3); clear hs3 hb3)
                      go_roundw
                      case rel => exact ⟨k + 1, v3, out2, 7, by omega, by go_num, Lib.hid (by have := HO2.out; exact ⟨by omega, by omega, fun h => absurd h (by decide)⟩), HS3, Lib.hid (.inr ⟨by decide, HT3.out.symm⟩), HB3⟩
                      case measure => simp [intOf]; omega
                  · have HBAD := Lib.hid hb2
                    have HPU := Lib.hid (skput_bad _ _ M bad2 v2 out2 _ HS2.out hb2 HOM.out cb HCB.out)
                    clear hb2
                    go_wp2_with (go_at_call 21; refine HPU.out.mono ?_; (rintro r w3 ⟨rfl, v3, hs3, hb3⟩); have HS3 := Lib.hid hs3; have HB3 := Lib.hid (HB2.out.trans hb3); clear hs3 hb3)
                    go_roundw
                    case rel => exact ⟨k + 1, v3, out2, bad2, by omega, by go_num, Lib.hid (by have := HO2.out; exact ⟨by omega, this.2.1, this.2.2⟩), HS3, Lib.hid (HT2.out.bad HBAD.out), HB3⟩
                    case measure => simp [intOf]; omega
                · obtain rfl : k = m := by omega
                  have HEX : Hid (StS (rdR M (zs.drop (p + 2)) 0 out2) bad2 R) := Lib.hid (by
                    by_cases hb2 : bad2 = 0
                    · subst hb2
                      have := HT2.out.ok
                      rw [Nat.sub_self, rep_zero _ _ _ _ HO2.out.2.1] at this
                      exact .inl ⟨rfl, this⟩
                    · exact HT2.out.bad hb2)
                  go_wp2_with fail
                  exact ⟨⟨p + 2, v2, out2, bad2, by omega, by go_num, Lib.hid (by have := HO2.out; exact ⟨by omega, this.2.1, fun h => by have := this.2.2 h; omega⟩), HS2, HEX, HB2⟩, by simp [intOf]; omega⟩
      · obtain rfl : p = n := by omega
        rw [List.drop_of_length_le (by rw [HL.out]; exact Nat.le_refl _), rd_nil] at hT
        have HT3 := Lib.hid hT
        have hpk := refPeek_out A p c zs p wr HL.out (.inr (Int.le_refl _)) (by omega)
        rw [peekZ_out zs p (by rw [HL.out]; exact .inr (Int.le_refl _))] at hpk
        have HPK := Lib.hid hpk
        have HF := Lib.hid (skfail0 _ _ M 2 v out _ HS.out)
        clear hT hpk
        go_wp2_with (first
          | (go_at_call 18; refine HPK.out.mono ?_; (rintro r w2 ⟨rfl, rfl⟩))
          | (go_at_call 19; refine HF.out.mono ?_; (rintro r w3 ⟨rfl, hs3, hb3⟩); have HS3 := Lib.hid hs3; have HB3 := Lib.hid (HBE.out.trans hb3); clear hs3 hb3))
        exact ⟨⟨p + 1, v, out, 2, by omega, by go_num, Lib.hid (by have := HO.out; exact ⟨by omega, this.2.1, fun h => absurd h (by decide)⟩), HS3, Lib.hid (.inr ⟨by decide, HT3.out.symm⟩), HB3⟩, by simp [intOf]⟩
    · have hbz : (bad == 0) = false := beq_eq_false_iff_ne.2 hbad
      have hR2 : R = ([], bad) := by
        rcases HT.out with ⟨h, _⟩ | ⟨_, h⟩
        · exact absurd h hbad
        · exact h
      subst hR2
      have HOT := Lib.hid (fun W hW => skout1 w.heap.size w.heap.size M bad v out W hW hbad)
      clear HT hbad
      go_wp2_with (go_at_call 20; refine (HOT.out _ HS.out).mono ?_; (rintro r w3 ⟨rfl, q, hq⟩); subst hq)
      go_ret2
      exact ReadPost.of_bad bad (below_drewN HBE.out _)
end Go.Proofs.Ytnalaenanopnbaa
