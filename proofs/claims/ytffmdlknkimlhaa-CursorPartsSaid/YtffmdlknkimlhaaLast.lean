/- What bytes.LastIndex answers: the last place at which a row of bytes stands in another, or -1; the library's own text is walked. -/
import Derived.Test.YtffmdlknkimlhaaWords
import Derived.Test.YtffmdlknkimlhaaShelf
import Derived.Outline
import Derived.Deep.LoopGhost
import Derived.Deep.QuietTactic
import Derived.BigQuiet
import Derived.Lib.Walk
import Derived.Lib.Strings
import Derived.Lib.Slices
import Derived.Lib.Bytealg
import Derived.BigCall
import Derived.BigGuard
import Derived.Laws.Strings3
import Derived.Laws.BytesArg
import Derived.Lib.SlBytesRow
import Derived.Lib.LastIndexLaws
namespace Go.Proofs.Ytffmdlknkimlhaa
open Go.RowKit Go.Lib
set_option linter.unusedVariables false

set_option maxHeartbeats 2000000 in
theorem hashRev (b o c : Nat) (sep : ByteArray) (hs : sep.size < 4294967281) (w : World) (hc : Lib.Bytes w b o sep) :
    Calls Try.prog 43 #[.slice (some ⟨b, o, none⟩) sep.size c] w fun e w' => e = .returned (.tuple #[.int .u32 (RK.H sep.data.toList.reverse % 4294967296), .int .u32 (16777619 ^ sep.size % 4294967296)]) ∧ w = w' := by
  have HC := Lib.hid hc
  clear hc
  go_enter Try.func43, Try.ntmps43
  go_wp2
  go_loop [4, 5] (fun vh vi => ∃ (k : Nat) (h : Int), k ≤ sep.size ∧ vi = .int .i64 ((k : Int) - 1) ∧ vh = .int .u32 h ∧ Hid (h = RK.H (sep.data.toList.drop k).reverse % 4294967296)) (fun _ vi => ((RowKit.intOf vi) + 1).toNat)
  case atStart => exact ⟨sep.size, 0, Nat.le_refl _, rfl, rfl, by show (0 : Int) = _; rw [List.drop_of_length_le (by simp)]; rfl⟩
  case round =>
    obtain ⟨k, h, hk, rfl, rfl, hh⟩ := hrel
    cases k with
    | succ j =>
      have ck := HC.out j (by omega)
      have e1 : ((j + 1 : Nat) : Int) - 1 = (j : Int) := by omega
      rw [e1]
      clear e1
      have HR := Lib.hid (LastIndex.hashrev_step sep (j + 1) (by omega) hk hh.out)
      obtain ⟨z, hz⟩ : ∃ z : Int, ((sep[j]).toNat : Int) = z := ⟨_, rfl⟩
      have hz0 : 0 ≤ z := by omega
      have hz1 : z < 256 := by have := UInt8.toNat_lt (sep[j]); omega
      have hr : (h * 16777619 % 4294967296 + z % 4294967296) % 4294967296 = RK.H (sep.data.toList.drop j).reverse % 4294967296 := by rw [← hz]; exact HR.out
      rw [hz] at ck
      have HR2 := Lib.hid hr
      clear hz hr HR
      go_wp2
      go_round
      case rel => exact ⟨j, _, by omega, rfl, rfl, Lib.hid (by have := HR2.out; omega)⟩
      case measure => simp [RowKit.intOf]
    | zero =>
      have HH := Lib.hid hh.out
      go_wp2
      go_loop [6, 7, 8] (fun vp vq vi => ∃ (i : Nat) (pw sq : Int), vi = .int .i64 i ∧ vp = .int .u32 pw ∧ vq = .int .u32 sq ∧ 0 ≤ pw ∧ pw < 4294967296 ∧ i ≤ sep.size ∧ Hid (RK.PowInv sep.size i pw sq)) (fun _ _ vi => (RowKit.intOf vi).toNat)
      case atStart => exact ⟨sep.size, 1, 16777619, rfl, rfl, rfl, by omega, by omega, Nat.le_refl _, RK.pow_start _⟩
      case round =>
        obtain ⟨i, pw, sq, rfl, rfl, rfl, p0, p1, hi, hinv⟩ := hrel
        have ea := and_one i (by omega)
        go_wp2
        · have ht : ((i : Int) % 2 != 0) = true := by assumption
          have ho : i % 2 = 1 := by simp at ht; omega
          go_round
          case rel => exact ⟨i / 2, _, _, by first | go_num | (congr 1; omega), rfl, rfl, by omega, by omega, by omega, RK.pow_odd hinv.out ho⟩
          case measure => simp [RowKit.intOf]; omega
        · have ht : ((i : Int) % 2 != 0) = false := by assumption
          have he : i % 2 = 0 := by simp at ht; omega
          go_round
          case rel => exact ⟨i / 2, _, _, by first | go_num | (congr 1; omega), rfl, rfl, p0, p1, by omega, RK.pow_even hinv.out he⟩
          case measure => simp [RowKit.intOf]; omega
        · have hi0 : i = 0 := by omega
          subst hi0
          have e1 : h = RK.H sep.data.toList.reverse % 4294967296 := by
            have := HH.out
            rwa [List.drop_zero] at this
          have e2 := RK.pow_end hinv.out p0 p1
          go_ret2
          rw [← e1, ← e2]
          exact ⟨rfl, rfl⟩

theorem byteZ (s : ByteArray) (i : Nat) (h : i < s.size) : 0 ≤ ((s[i]).toNat : Int) ∧ ((s[i]).toNat : Int) < 256 := by
  have := UInt8.toNat_lt (s[i])
  omega

set_option maxRecDepth 100000 in
set_option maxHeartbeats 4000000 in
/-- The search from the end: of at least one byte, at most as many as there are. -/
theorem lastRK (b1 o1 c1 b2 o2 c2 : Nat) (s sep : ByteArray) (h1 : 1 ≤ sep.size) (h2 : sep.size ≤ s.size) (hs : s.size < 4294967281) (w : World)
    (hc1 : Lib.Bytes w b1 o1 s) (hc2 : Lib.Bytes w b2 o2 sep) (hcap : s.size ≤ c1) :
    Calls Try.prog 39 #[.slice (some ⟨b1, o1, none⟩) s.size c1, .slice (some ⟨b2, o2, none⟩) sep.size c2] w fun e w' => e = .returned (.int .i64 (Lib.lastIndex s.data.toList sep.data.toList)) ∧ ∃ q, w' = w.drewN q := by
  obtain ⟨hh, Hh⟩ : ∃ hh : Int, hh = RK.H sep.data.toList.reverse % 4294967296 := ⟨_, rfl⟩
  obtain ⟨pw, Hp⟩ : ∃ pw : Int, pw = 16777619 ^ sep.size % 4294967296 := ⟨_, rfl⟩
  have hc : Calls Try.prog 43 #[.slice (some ⟨b2, o2, none⟩) sep.size c2] w fun e w' => e = .returned (.tuple #[.int .u32 hh, .int .u32 pw]) ∧ w = w' := by rw [Hh, Hp]; exact hashRev b2 o2 c2 sep (by omega) w hc2
  have HHR := Lib.hid hc
  have HH := Lib.hid Hh
  have HP := Lib.hid Hp
  clear Hh Hp hc
  obtain ⟨last, hlast⟩ : ∃ last : Nat, last + sep.size = s.size := ⟨s.size - sep.size, by omega⟩
  have HLA := Lib.hid hlast
  have elast : (s.size : Int) - sep.size = last := by omega
  have HEL := Lib.hid elast
  have HL : Hid (Lib.lastIndex s.data.toList sep.data.toList = Lib.lastOcc s.data.toList sep.data.toList (last + 1)) := by
    show _ = _
    unfold Lib.lastIndex
    rw [if_pos (by simp; omega)]
    congr 1
    simp; omega
  have z5 : ∀ w, (Go.sizeOf 5).run Try.prog w = .ok 1 w := fun w => by kernel_rfl
  have HVS : Hid (∀ n, (convert 25 9 (.slice (some ⟨b2, o2, none⟩) sep.size c2)).run Try.prog (w.drewN n) = .ok (.string sep) (w.drewN n)) := Lib.hid (fun n =>
    Lib.run_convert_whole (P := Try.prog) (w.drewN n) _ _ _ Try.underlying25 Try.underlying5 Try.underlying9 b2 o2 sep (Lib.Bytes.drewN hc2 n) c2)
  have HVW : Hid (∀ n j cap, j + sep.size ≤ s.size → (convert 25 9 (.slice (some ⟨b1, o1 + j, none⟩) sep.size cap)).run Try.prog (w.drewN n) = .ok (.string (s.extract j (j + sep.size))) (w.drewN n)) := Lib.hid (fun n j cap hj =>
    Lib.run_convert_window (P := Try.prog) _ _ _ _ Try.underlying25 Try.underlying5 Try.underlying9 b1 o1 s (Lib.Bytes.drewN hc1 n) j sep.size cap hj)
  have HSL : Hid (∀ W (j : Nat), j + sep.size ≤ s.size → (Instr.slice 25 (.slice (some ⟨b1, o1, none⟩) s.size c1) (some (.int .i64 (j : Int))) (some (.int .i64 ((j : Int) + sep.size))) none).run Try.prog W = .ok (.slice (some ⟨b1, o1 + j, none⟩) sep.size (c1 - j)) W) := Lib.hid (fun W j hj => by
    have h := Lib.run_slice_window (P := Try.prog) W 25 5 Try.underlying25 z5 b1 o1 s.size c1 j (j + sep.size) (by omega) (by omega)
    rw [Nat.add_sub_cancel_left] at h
    exact h)
  have HSF : Hid (∀ W, (Instr.slice 25 (.slice (some ⟨b1, o1, none⟩) s.size c1) (some (.int .i64 (last : Int))) none none).run Try.prog W = .ok (.slice (some ⟨b1, o1 + last, none⟩) sep.size (c1 - last)) W) := Lib.hid (fun W => by
    have ht' : Try.prog.underlying 25 = some (.slice (Try.prog.elem 25)) := by kernel_rfl
    have he : Try.prog.elem 25 = 5 := by kernel_rfl
    rw [run_slice_l W 25 _ _ _ ht' .i64 _ (by omega) (by omega), he, z5]
    have hne : ¬ c1 = last := by omega
    simp only [Result.andThen, sliced, Int.toNat_natCast, if_neg hne, Option.map_some, Nat.mul_one]
    rw [show s.size - last = sep.size by omega]
    have e2 : (⟨b1, o1, none⟩ : Addr).add last = ⟨b1, o1 + last, none⟩ := by unfold Addr.add; split <;> simp_all
    rw [e2])
  have HC1 := Lib.hid hc1
  clear hc1 hc2 hlast z5
  go_enter Try.func39, Try.ntmps39
  go_wp2_with (go_at_call 43; refine HHR.out.mono ?_; rintro e w' ⟨rfl, rfl⟩)
  go_loop [9, 10] (fun vh vi => ∃ (k : Nat) (h : Int), last ≤ k ∧ k ≤ s.size ∧ vi = .int .i64 ((k : Int) - 1) ∧ vh = .int .u32 h ∧ Hid (h = RK.H (s.data.toList.drop k).reverse % 4294967296)) (fun _ vi => ((RowKit.intOf vi) + 1).toNat)
  case atStart => exact ⟨s.size, 0, by have := HLA.out; omega, Nat.le_refl _, rfl, rfl, by show (0 : Int) = _; rw [List.drop_of_length_le (by simp)]; rfl⟩
  case round =>
    obtain ⟨k, h, hk1, hk, rfl, rfl, hh2⟩ := hrel
    by_cases hkl : last < k
    · obtain ⟨j, rfl⟩ : ∃ j, k = j + 1 := ⟨k - 1, by omega⟩
      have ck := HC1.out j (by omega)
      have e1 : ((j + 1 : Nat) : Int) - 1 = (j : Int) := by omega
      rw [e1]
      clear e1
      have HR := Lib.hid (LastIndex.hashrev_step s (j + 1) (by omega) hk hh2.out)
      obtain ⟨hz0, hz1⟩ := byteZ s j (by omega)
      obtain ⟨z, hz⟩ : ∃ z : Int, ((s[j]).toNat : Int) = z := ⟨_, rfl⟩
      have hr : (h * 16777619 % 4294967296 + z % 4294967296) % 4294967296 = RK.H (s.data.toList.drop j).reverse % 4294967296 := by rw [← hz]; exact HR.out
      rw [hz] at ck hz0 hz1
      have HR2 := Lib.hid hr
      clear hz hr HR
      go_wp2
      go_round
      case rel => exact ⟨j, _, by omega, by omega, rfl, rfl, Lib.hid (by have := HR2.out; omega)⟩
      case measure => simp [RowKit.intOf]
    · obtain rfl : k = last := by omega
      have hlt : ¬ (k : Int) ≤ (k : Int) - 1 := by omega
      have Hwin : Hid (h = RK.H (RK.win s.data.toList k sep.size).reverse % 4294967296) := Lib.hid (by
        have := hh2.out
        rwa [show s.data.toList.drop k = RK.win s.data.toList k sep.size from (List.take_of_length_le (by have := HLA.out; simp; omega)).symm] at this)
      clear hh2
      have hv1 := fun n cap => HVW.out n k cap (by have := HLA.out; omega)
      have hv2 := HVS.out
      have hsf := HSF.out
      by_cases hyes : h = hh ∧ ((s.extract k (k + sep.size)).toList == sep.toList) = true
      · obtain ⟨rfl, hcmp⟩ := hyes
        have ho := occ_yes s sep k (by have := HLA.out; omega) hcmp
        have HRES : Hid (Lib.lastIndex s.data.toList sep.data.toList = k) := Lib.hid (by rw [HL.out, Lib.lastOcc_hit _ _ k ho])
        clear ho
        go_wp2_with fail
        go_quiet (fail)
        go_wp2
        go_ret
        exact ⟨ret_int HRES.out.symm, _, rfl⟩
      · have HL2 : Hid (Lib.lastIndex s.data.toList sep.data.toList = Lib.lastOcc s.data.toList sep.data.toList k) := Lib.hid (by
          rw [HL.out]
          refine Lib.lastOcc_miss _ _ k ?_
          by_cases ehh : h = hh
          · exact occ_no s sep k (by have := HLA.out; omega) (by rcases hq : ((s.extract k (k + sep.size)).toList == sep.toList) with _ | _; rfl; exact absurd ⟨ehh, hq⟩ hyes)
          · exact LastIndex.occ_no_hashrev s sep k (by have := HLA.out; omega) Hwin.out HH.out ehh)
        have hways : (h = hh ∧ ((s.extract k (k + sep.size)).toList == sep.toList) = false) ∨ (h == hh) = false := by
          by_cases ehh : h = hh
          · exact .inl ⟨ehh, by rcases hq : ((s.extract k (k + sep.size)).toList == sep.toList) with _ | _; rfl; exact absurd ⟨ehh, hq⟩ hyes⟩
          · exact .inr (beq_eq_false_iff_ne.2 ehh)
        clear hyes
        obtain ⟨HHV, hhv⟩ : ∃ HHV, HHV = hh := ⟨_, rfl⟩
        subst hhv
        rcases hways with ⟨hheq, hcmp⟩ | hne
        all_goals
          go_wp2_with fail
          go_quiet (fail)
          go_wp2
          clear hv1 hsf hlt
          go_loopw [9, 11] (fun vh vi wr => ∃ (j : Nat) (g : Int) (q : Nat), j ≤ k ∧ vi = .int .i64 ((j : Int) - 1) ∧ vh = .int .u32 g ∧ wr = w.drewN q ∧ Hid (g = RK.H (RK.win s.data.toList j sep.size).reverse % 4294967296) ∧ Hid (Lib.lastIndex s.data.toList sep.data.toList = Lib.lastOcc s.data.toList sep.data.toList j)) (fun _ vi _ => ((RowKit.intOf vi) + 1).toNat)
          case atStart => first | exact ⟨k, _, _, Nat.le_refl _, rfl, rfl, rfl, Hwin, HL2⟩ | exact ⟨k, _, _, Nat.le_refl _, rfl, rfl, rfl, Lib.hid (hheq.symm.trans Hwin.out), HL2⟩
          case round =>
            obtain ⟨j, g, q, hj, rfl, rfl, rfl, hg, hl⟩ := hrel
            cases j with
            | zero =>
              go_wp2
              go_ret
              exact ⟨ret_int hl.out.symm, _, rfl⟩
            | succ i =>
              have hfit : i + sep.size < s.size := by have := HLA.out; omega
              have ck := HC1.out i (by omega)
              have ck2 := HC1.out (i + sep.size) hfit
              have e1 : ((i + 1 : Nat) : Int) - 1 = (i : Int) := by omega
              rw [e1]
              clear e1
              have HR := Lib.hid (LastIndex.rollrev_step s sep.size i h1 (by omega) hg.out HP.out)
              obtain ⟨ya, yb⟩ := byteZ s i (by omega)
              obtain ⟨xa, xb⟩ := byteZ s (i + sep.size) hfit
              obtain ⟨y, hy⟩ : ∃ y : Int, ((s[i]).toNat : Int) = y := ⟨_, rfl⟩
              obtain ⟨x, hx⟩ : ∃ x : Int, ((s[i + sep.size]).toNat : Int) = x := ⟨_, rfl⟩
              have hr : (g * 16777619 + y - pw * (x % 4294967296)) % 4294967296 = RK.H (RK.win s.data.toList i sep.size).reverse % 4294967296 := by rw [← hx, ← hy]; exact HR.out
              rw [hy] at ck ya yb
              rw [hx] at ck2 xa xb
              have HR2 := Lib.hid hr
              have hsl := fun W => HSL.out W i (by omega)
              have hv1 := fun n cap => HVW.out n i cap (by omega)
              clear hx hy hr HR
              go_wp2_with fail
              generalize hG : ((g * 16777619 + y) % 4294967296 - pw * x % 4294967296) % 4294967296 = G
              have HG : Hid (G = RK.H (RK.win s.data.toList i sep.size).reverse % 4294967296) := Lib.hid (by
                have h3 := HR2.out
                rw [Int.emod_eq_of_lt xa (by omega)] at h3
                rw [← h3, ← hG]
                omega)
              clear hG HR2
              have HOCC : Hid (∀ b, ((s.extract i (i + sep.size)).toList == sep.toList) = b → occAt s.data.toList sep.data.toList i = b) := Lib.hid (fun b hb => by
                cases b
                · exact occ_no s sep i (by omega) hb
                · exact occ_yes s sep i (by omega) hb)
              by_cases hyes : (G == HHV) = true ∧ ((s.extract i (i + sep.size)).toList == sep.toList) = true
              · obtain ⟨hgb, hcmp⟩ := hyes
                have HRES : Hid (Lib.lastIndex s.data.toList sep.data.toList = i) := Lib.hid (by rw [hl.out, Lib.lastOcc_hit _ _ i (HOCC.out _ hcmp)])
                go_quiet (fail)
                go_wp2
                go_ret
                exact ⟨ret_int HRES.out.symm, _, World.drewN_drewN _ _ _⟩
              · have HNO : Hid (Lib.lastIndex s.data.toList sep.data.toList = Lib.lastOcc s.data.toList sep.data.toList i) := Lib.hid (by
                  rw [hl.out]
                  refine Lib.lastOcc_miss _ _ i ?_
                  rcases hgb : (G == HHV) with _ | _
                  · exact LastIndex.occ_no_hashrev s sep i (by omega) HG.out HH.out (by simpa using hgb)
                  · rcases hq : ((s.extract i (i + sep.size)).toList == sep.toList) with _ | _
                    · exact HOCC.out _ hq
                    · exact absurd ⟨hgb, hq⟩ hyes)
                have hways : ((G == HHV) = true ∧ ((s.extract i (i + sep.size)).toList == sep.toList) = false) ∨ (G == HHV) = false := by
                  rcases hgb : (G == HHV) with _ | _
                  · exact .inr rfl
                  · rcases hq : ((s.extract i (i + sep.size)).toList == sep.toList) with _ | _
                    · exact .inl ⟨rfl, rfl⟩
                    · exact absurd ⟨hgb, hq⟩ hyes
                clear hyes
                rcases hways with ⟨hgb, hcmp⟩ | hgb
                all_goals
                  go_quiet (fail)
                  go_wp2
                  go_roundw
                  case rel => exact ⟨i, G, _, by omega, rfl, rfl, rfl, HG, HNO⟩
                  case measure => simp [RowKit.intOf]
end Go.Proofs.Ytffmdlknkimlhaa
