/- SumsParts: of any parts the sum of all of them; one behind the other likewise, from any sum on. No condition on the input. -/
import Derived.Test.YtfmbbeaojkhmjaaLaw3Do
import Derived.Test.YtfmbbeaojkhmjaaCopy
namespace Go.Proofs.Ytfmbbeaojkhmjaa
open Go.ChangeShapes Go.WideShapes Go.ChangeAt Go.RowKit Go.Deep
set_option linter.unusedVariables false

/-- The sum of the parts, one behind the other. -/
def moreX (s : Int) (Z : Nat → List Int) : Nat → Int
  | 0 => s
  | k + 1 => moreV (moreX s Z k) (Z k)
theorem moreX_cat (s : Int) (Z : Nat → List Int) : ∀ k, moreX s Z (k + 1) = moreV s (catZ Z (k + 1))
  | 0 => rfl
  | k + 1 => by rw [moreX, moreX_cat s Z k, moreV_app]; rfl
theorem moreX_bd (s : Int) (Z : Nat → List Int) (h0 : 0 ≤ s) (h1 : s ≤ 4294967295) : ∀ k, 0 ≤ moreX s Z k ∧ moreX s Z k ≤ 4294967295
  | 0 => ⟨h0, h1⟩
  | k + 1 => moreV_bd _ _
theorem catZ_500 {Z : Nat → List Int} : ∀ k, (∀ i, i < k → (Z i).length ≤ 500) → (catZ Z k).length ≤ 500 * k
  | 0, _ => by simp [catZ]
  | k + 1, h => by
    have h1 := catZ_500 k (fun i hi => h i (by omega))
    have h2 := h k (by omega)
    simp only [catZ, List.length_append]
    omega

set_option maxRecDepth 100000 in
set_option maxHeartbeats 2000000 in
theorem parts_walk (A : Option Addr) (n c : Nat) (As : Nat → Option Addr) (Ns Cs : Nat → Nat) (Z : Nat → List Int) (s : Int) (w : World) (hp : Parts w w.heap.size A n As Ns Cs Z) (hn : n ≤ 9223372036854775807) (hNs : ∀ i, i < n → Ns i ≤ 9223372036854775807) (s0 : 0 ≤ s) (s1 : s ≤ 4294967295) :
    Calls Try.prog 4 #[.slice A n c, .int .u32 s] w fun e w' => e = .returned (.bool true) ∧ Below w.heap.size w w' := by
  have HAW := Lib.hid (awake_any w)
  have HP := Lib.hid hp
  have HNS := Lib.hid hNs
  clear hp hNs
  by_cases h1 : 60 < n
  · go_enter Try.func4, Try.ntmps4
    go_wp2_with (go_at_call 6; refine HAW.out.mono ?_; rintro e w1 ⟨rfl, hb1⟩)
    go_ret
    exact ⟨rfl, hb1⟩
  go_enter Try.func4, Try.ntmps4
  go_wp2_with (go_at_call 6; refine HAW.out.mono ?_; rintro e w1 ⟨rfl, hb1⟩)
  have HB1 := Lib.hid hb1
  clear hb1
  have HX := Lib.hid (moreX_bd s Z s0 s1)
  have HXC := Lib.hid (moreX_cat s Z)
  go_loopw [5, 6, 7] (fun v x i wr => ∃ k : Nat, k ≤ n ∧ i = .int .i64 k ∧ x = .int .u32 (moreX s Z k) ∧ (∀ j, j < k → (Z j).length ≤ 500) ∧ Mine wr w1.heap.size v (catZ Z k).length (catZ Z k) ∧ Below w1.heap.size w1 wr) (fun _ _ i _ => n - (intOf i).toNat)
  case atStart => exact ⟨0, Nat.zero_le _, rfl, rfl, fun j h => absurd h (by omega), Mine.nil _ _, Below.refl _ _⟩
  case round =>
    obtain ⟨k, hk, rfl, rfl, hall, hmi, hbe⟩ := hrel
    have HALL := Lib.hid hall
    have HMI := Lib.hid hmi
    have HBE := Lib.hid hbe
    have hl := catZ_500 k HALL.out
    clear hall hmi hbe
    by_cases hlt : k < n
    · have hpj := (HP.out.below HB1.out (Nat.le_refl _)).below HBE.out HB1.out.size
      obtain ⟨b, o, rfl, hbl, hc⟩ := hpj.cell (by omega)
      have ck := hc k hlt
      have hby := hpj.byt k hlt
      have hln := hby.len
      have HLN := Lib.hid hln
      have HBY := Lib.hid hby
      have HBL := Lib.hid hbl
      have hns := HNS.out k hlt
      by_cases hbig : 500 < Ns k
      · clear hpj hc hby hln hbl
        go_wp2
        go_ret
        exact ⟨rfl, HB1.out.trans (HBE.out.mono HB1.out.size)⟩
      have hN500 : Ns k ≤ 500 := by omega
      have HAP := Lib.hid (HMI.out.append hby 25 (by omega) HBE.out.size)
      have HCL : Hid ((catZ Z (k + 1)).length = (catZ Z k).length + Ns k) := Lib.hid (by simp only [catZ, List.length_append]; rw [hln])
      have HALL2 : Hid (∀ j, j < k + 1 → (Z j).length ≤ 500) := Lib.hid (fun j hj => by
        rcases Nat.lt_or_ge j k with h | h
        · exact HALL.out j h
        · rw [show j = k by omega, hln]; exact hN500)
      have HSM := Lib.hid (fun W (hW : Below w1.heap.size wr W) => smMore (moreX s Z k) (As k) (Ns k) (Cs k) (Z k) W (HX.out k).1 (HX.out k).2 ((HBY.out.below hW HB1.out.size).more (Nat.le_trans HB1.out.size (Nat.le_trans HBE.out.size hW.size))) (by omega))
      have HCK := Lib.hid (fun W (hW : Below w1.heap.size wr W) => (hW.cell (p := ⟨b, o + k, none⟩) (Nat.lt_of_lt_of_le HBL.out HB1.out.size)).trans ck)
      obtain ⟨A6, c6, rfl, _⟩ := HMI.out.byt
      have HXS : Hid (moreX s Z (k + 1) = moreV (moreX s Z k) (Z k)) := Lib.hid rfl
      obtain ⟨X, hXX⟩ : ∃ X, moreX s Z k = X := ⟨_, rfl⟩
      rw [hXX] at HSM HXS ⊢
      obtain ⟨LK, hLK⟩ : ∃ LK, (catZ Z k).length = LK := ⟨_, rfl⟩
      have HLK := Lib.hid hLK
      rw [hLK]
      clear hpj hc hby hln hbl hXX hLK
      go_wp2_with (first
        | (at_builtin; obtain ⟨v6, w6, hrun, hmi6, hbe6⟩ := HAP.out; rw [HLK.out] at hrun; refine Lib.wpList_append_run_sl _ rfl (.tmp 27) (.tmp 31) 25 rfl _ _ rfl rfl hrun ?_; clear hrun; have ck6 := HCK.out w6 hbe6; have HBE6 := Lib.hid hbe6; have HMI6 := Lib.hid hmi6; clear hbe6 hmi6)
        | (go_at_call 8; refine (HSM.out w6 HBE6.out).mono ?_; rintro e w7 ⟨rfl, hb7⟩))
      have hmi7 : Mine w7 w1.heap.size v6 (catZ Z (k + 1)).length (catZ Z (k + 1)) := by rw [HCL.out]; exact HMI6.out.kept hb7
      have h17 : w1.heap.size ≤ w6.heap.size := Nat.le_trans HBE.out.size HBE6.out.size
      go_roundw
      case rel => exact ⟨k + 1, by omega, by go_num, int_eq HXS.out.symm, HALL2.out, hmi7, HBE.out.trans (HBE6.out.trans (hb7.mono h17))⟩
      case measure => simp [intOf]; omega
    · obtain rfl : k = n := by omega
      have HPJ := Lib.hid ((HP.out.below HB1.out (Nat.le_refl _)).below HBE.out HB1.out.size)
      have HSZ := Lib.hid (Nat.le_trans HB1.out.size HBE.out.size)
      obtain ⟨A6, c6, rfl, hby6⟩ := HMI.out.byt
      have HBY6 := Lib.hid hby6
      have HALLN := Lib.hid (fun i (hi : i < k) => show Ns i ≤ 1000000 by rw [← (HP.out.byt i hi).len]; exact Nat.le_trans (HALL.out i hi) (by omega))
      have HLC : Hid ((catZ Z k).length ≤ 1000000) := Lib.hid (by omega)
      have HR1 := Lib.hid (refMore s A6 _ c6 _ _ wr s0 s1 hby6 (by have := HLC.out; omega))
      have HR2 := Lib.hid (fun W (hW : Below wr.heap.size wr W) => refAdler A6 _ c6 _ _ W (hby6.below hW (Nat.le_refl _)) (by have := HLC.out; omega))
      have HR3 := Lib.hid (fun W (hW : Below wr.heap.size wr W) => refMore s A6 _ c6 _ _ W s0 s1 (hby6.below hW (Nat.le_refl _)) (by have := HLC.out; omega))
      have HS1 := Lib.hid (smAdler A k c As Ns Cs Z wr ⟨fun h => by obtain ⟨b, o, e, hlt2, hc⟩ := HPJ.out.cell h; exact ⟨b, o, e, Nat.lt_of_lt_of_le hlt2 HSZ.out, hc⟩, fun i hi => (HPJ.out.byt i hi).more HSZ.out⟩ (by omega) HALLN.out)
      have HS2 := Lib.hid (fun W (hW : Below wr.heap.size wr W) => smMore s A6 _ c6 _ W s0 s1 ((hby6.below hW (Nat.le_refl _)).more hW.size) HLC.out)
      obtain ⟨V1, hV1⟩ : ∃ V1, moreV 1 (catZ Z k) = V1 := ⟨_, rfl⟩
      obtain ⟨VS, hVS⟩ : ∃ VS, moreV s (catZ Z k) = VS := ⟨_, rfl⟩
      rw [hV1] at HR2 HS1
      rw [hVS] at HR1 HR3 HS2
      have HEND := Lib.hid (HB1.out.trans (HBE.out.mono HB1.out.size))
      have hX : (((k : Int) == 0) = true ∧ moreX s Z k = s) ∨ (((k : Int) == 0) = false ∧ moreX s Z k = VS) := by
        rcases Nat.eq_zero_or_pos k with h | h
        · exact .inl ⟨beq_iff_eq.2 (by omega), by rw [h]; rfl⟩
        · obtain ⟨j, rfl⟩ : ∃ j, k = j + 1 := ⟨k - 1, by omega⟩
          exact .inr ⟨beq_eq_false_iff_ne.2 (by omega), by rw [HXC.out j]; exact hVS⟩
      clear hby6 hlt hV1 hVS hl
      rcases hX with ⟨h0, hx⟩ | ⟨h0, hx⟩
      all_goals
        rw [hx]
        clear hx
        go_wp2_with (first
          | (go_at_call 9; (with_reducible refine HR1.out.mono ?_); rintro e w' ⟨rfl, rfl⟩)
          | (go_at_call 7; (with_reducible refine HS1.out.mono ?_); rintro e w8 ⟨rfl, hb8⟩)
          | (go_at_call 10; (with_reducible refine (HR2.out w8 hb8).mono ?_); rintro e w' ⟨rfl, rfl⟩)
          | (go_at_call 8; (with_reducible refine (HS2.out w8 hb8).mono ?_); rintro e w9 ⟨rfl, hb9⟩; have hb10 := hb8.trans (hb9.mono hb8.size))
          | (go_at_call 9; (with_reducible refine (HR3.out w9 hb10).mono ?_); rintro e w' ⟨rfl, rfl⟩))
        go_ret
        exact ⟨by simp, HEND.out.trans (hb10.mono HEND.out.size)⟩

set_option maxRecDepth 100000 in
theorem parts_lifted (os : Os) (started : os.Started) (H : Type) (enc : TypeId × Value → H) :
    ReturnsInHanded {} Try.checked os 4 .any (Rows.sumsPartsSpec.pre6 enc Try.prog Try.f4 Rows.sumsPartsRow.domain false) (Rows.sumsPartsSpec.post enc Try.prog Try.f4 false true false false) := by
  refine returnsInHanded_of_change (C := Try.checked) own started (by kernel_rfl) Try.func4
    (ChangeSpec.witness6 (enc := enc) (C := Try.checked) false ⟨#[], #[.slice none 0 0, .int .u32 0], []⟩ 8 (by kernel_rfl) (by kernel_rfl) (by kernel_rfl) (by kernel_rfl)) ?_
  intro W base args ds gs before hval0 hW hcnd _
  have hval : ∀ (j : Nat) t v, Try.f4.params[j]? = some t → args[j]? = some v → Value.okWide Try.prog W .any base t v := hval0
  have hW' := hW
  obtain ⟨p, q, hA0, hV, rfl, hfz, hnd⟩ := hW
  have hA : DataW.TrodAll enc Try.prog W 0 (fun _ => true) true Try.f4.params.toList args.toList ds p := hA0
  rw [Try.params4] at hA hval
  obtain ⟨v0, vs0, d0, ds0, p0, q0, hargs, rfl, rfl, h0, r0⟩ := trodAll_cons hA
  obtain ⟨v1, vs1, d1, ds1, p1, q1, rfl, rfl, rfl, h1, r1⟩ := trodAll_cons r0
  obtain ⟨rfl, rfl, rfl⟩ := trodAll_nil r1
  obtain rfl : args = #[v0, v1] := by cases args; simp_all
  obtain ⟨rfl, rfl⟩ := trodVars_none hV
  obtain ⟨a0, len0, cap0, rfl⟩ := okWide_slice Try.underlying27 (hval 0 27 v0 rfl rfl)
  obtain ⟨As0, Ns0, Cs0, Z0, hln0, hpt0, hns0⟩ := open_parts h0 (fun _ => rfl)
  have lt0 : ∀ x ∈ p0, x.block < W.heap.size := by obtain ⟨m, hm⟩ := h0; exact DataW.trod_lt m _ _ _ hm
  obtain ⟨x1, rfl⟩ := okWide_int Try.underlying23 (hval 1 23 v1 rfl rfl)
  obtain ⟨lo1, hi1⟩ := open_intk Try.underlying23 h1
  rw [show IntKind.u32.min = 0 by decide] at lo1
  rw [show IntKind.u32.max = 4294967295 by decide] at hi1
  have lt1 : ∀ x ∈ p1, x.block < W.heap.size := by obtain ⟨m, hm⟩ := h1; exact DataW.trod_lt m _ _ _ hm
  have hmx : maxLen = 9223372036854775807 := by decide
  clear hA0 hval0
  refine (parts_walk a0 len0 cap0 As0 Ns0 Cs0 Z0 x1 W hpt0 hln0 hns0 lo1 hi1).mono fun e W' ⟨he, bel⟩ => ?_
  subst he
  exact ⟨_, rfl, _, _, _, [], _, [], hW', trodAll_mk1 (shut_bool Try.underlying4 _), (trodAll_cons_mk (Below.trod laidOut (by kernel_rfl) (of_decide_eq_true (by kernel_rfl)) h0 bel lt0) (trodAll_cons_mk (Below.trod laidOut (by kernel_rfl) (of_decide_eq_true (by kernel_rfl)) h1 bel lt1) trodAll_mk0)), rfl, bel.frame _, fun h => by cases h⟩

/-- SumsParts: it answers true. -/
theorem parts_holds : Rows.SumsPartsSaid :=
  OpenClaim.holds_of_wide 4 Try.f4 rfl rfl rfl rfl rfl rfl rfl ⟨rfl, rfl, rfl, rfl, rfl⟩ rfl rfl rfl rfl rfl (by kernel_rfl) Try.func4 (by kernel_rfl)
    (of_decide_eq_true (by kernel_rfl)) (by unfold Func.isWrapper; first | (rw [if_pos (by decide +kernel)]; kernel_rfl) | (rw [if_neg (by decide +kernel)]; exact ⟨rfl, rfl⟩))
    (fun os started H enc _ => parts_lifted os started H enc)
#print axioms parts_holds

end Go.Proofs.Ytfmbbeaojkhmjaa
