/- FixedBack: a number that may be, as a text, is read as it was. No condition on the input. -/
import Derived.Test.YtlpehpajfinjkaaDoorLaid2
import Derived.Test.YtlpehpajfinjkaaDoorOpen2
namespace Go.Proofs.YtlpehpajfinjkaaDoor
open Go.ChangeShapes Go.WideShapes Go.ChangeAt Go.RowKit Go.Deep
set_option linter.unusedVariables false

theorem text_len (n : Int) (whole : Bool) : (textB n whole).length ≤ 1000000 := by
  have h1 := digB_le n.natAbs
  have h2 := digB_le (n.natAbs / 100000)
  have h3 : (fracB n.natAbs).length ≤ 20 := by
    obtain ⟨j, hj⟩ := stripZ_spec ((digB (100000 + n.natAbs % 100000)).drop 1)
    have e := congrArg List.length hj
    have h4 := digB_le (100000 + n.natAbs % 100000)
    rw [List.length_append, List.length_drop] at e
    show (stripZ _).length ≤ 20
    omega
  have h5 : (signB n).length ≤ 1 := by unfold signB; split <;> simp
  unfold textB
  rw [List.length_append]
  split
  · omega
  · simp only [List.length_append, List.length_singleton]; omega

theorem back_out (n : Int) (whole : Bool) (w : World) (htab : Tab w) (h : inB n = false) :
    Calls Tryd.prog 6 #[.int .i64 n, .bool whole] w fun e w' => e = .returned (.bool true) ∧ Below w.heap.size w w' := by
  have HTB := Lib.hid htab
  have HAW := Lib.hid (awake_any w htab)
  clear htab
  have HJ := Lib.hid (fun W => h ▸ refIn_any n W)
  clear h
  go_enter Tryd.func6, Tryd.ntmps6
  go_wp2_with (first
    | (go_at_call 11; refine HAW.out.mono ?_; rintro e w1 ⟨rfl, hb1⟩)
    | (go_at_call 19; refine (HJ.out _).mono ?_; rintro e w5 ⟨rfl, rfl⟩))
  go_ret
  exact ⟨rfl, hb1⟩
theorem back_great (n : Int) (w : World) (htab : Tab w) (h : inB n = true) (hg : 2147483647 < n ∨ (n ≤ 2147483647 ∧ n < -2147483647)) :
    Calls Tryd.prog 6 #[.int .i64 n, .bool true] w fun e w' => e = .returned (.bool true) ∧ Below w.heap.size w w' := by
  have HTB := Lib.hid htab
  have HAW := Lib.hid (awake_any w htab)
  clear htab
  have HJ := Lib.hid (fun W => h ▸ refIn_any n W)
  clear h
  rcases hg with hg | ⟨hg, hg2⟩
  all_goals
    go_enter Tryd.func6, Tryd.ntmps6
    go_wp2_with (first
      | (go_at_call 11; refine HAW.out.mono ?_; rintro e w1 ⟨rfl, hb1⟩)
      | (go_at_call 19; refine (HJ.out _).mono ?_; rintro e w5 ⟨rfl, rfl⟩))
    go_ret
    exact ⟨rfl, hb1⟩
theorem back_main (n : Int) (whole : Bool) (w : World) (htab : Tab w) (h : inB n = true) (hw : whole = false ∨ (whole = true ∧ n ≤ 2147483647 ∧ -2147483647 ≤ n)) :
    Calls Tryd.prog 6 #[.int .i64 n, .bool whole] w fun e w' => e = .returned (.bool true) ∧ Below w.heap.size w w' := by
  obtain ⟨n0, n1⟩ := (inB_iff n).1 h
  have HTB := Lib.hid htab
  have HAW := Lib.hid (awake_any w htab)
  clear htab
  have HJ := Lib.hid (fun W => h ▸ refIn_any n W)
  have hpt := parse_text n whole h (fun e => by rcases hw with hw | ⟨_, h1, h2⟩; rw [hw] at e; cases e; exact ⟨h2, h1⟩)
  obtain ⟨S, hS⟩ : ∃ S : ByteArray, ⟨(textB n whole).toArray⟩ = S := ⟨_, rfl⟩
  have hlen : S.size ≤ 1000000 := by rw [← hS]; exact text_len n whole
  have hzs : zsB S.data.toList = zsB (textB n whole) := by rw [← hS]
  have HF := Lib.hid (fun W hT => hS ▸ fxText n whole W (by omega) (by omega) hT)
  obtain ⟨cc, ww, hk⟩ := str_bytes S
  have kc := fun W => (hk W).1
  have HB := Lib.hid (fun W => (hk W).2)
  have HP := Lib.hid (fun A c W (h : Byt W W.heap.size A S.size c (zsB S.data.toList)) => (hpt ▸ hzs ▸ fxParse A S.size c _ W h hlen : Calls Tryd.prog 12 #[.slice A S.size c] W fun e w' => e = .returned (tripV (n, whole, 0)) ∧ Below W.heap.size W w'))
  clear hk hzs hlen hS hpt h
  rcases hw with rfl | ⟨rfl, h1, h2⟩
  all_goals
    go_enter Tryd.func6, Tryd.ntmps6
    go_wp2_with (first
      | (go_at_call 11; refine HAW.out.mono ?_; rintro e w1 ⟨rfl, hb1⟩)
      | (go_at_call 19; refine (HJ.out _).mono ?_; rintro e w5 ⟨rfl, rfl⟩)
      | (go_at_call 15; refine (HF.out _ (HTB.out.below hb1 (Nat.le_refl _))).mono ?_; rintro e w2 ⟨rfl, hb2⟩)
      | (go_at_call 12; refine (HP.out _ _ _ (HB.out w2).1).mono ?_; rintro e w3 ⟨rfl, hb3⟩))
    go_ret
    have h2 := hb1.trans (hb2.mono hb1.size)
    have h3 := h2.trans ((HB.out w2).2.mono h2.size)
    exact ⟨rfl, h3.trans (hb3.mono h3.size)⟩
theorem back_walk (n : Int) (whole : Bool) (w : World) (htab : Tab w) (h0 : -9223372036854775808 ≤ n) (h1 : n ≤ 9223372036854775807) :
    Calls Tryd.prog 6 #[.int .i64 n, .bool whole] w fun e w' => e = .returned (.bool true) ∧ Below w.heap.size w w' := by
  rcases h : inB n with _ | _
  · exact back_out n whole w htab h
  · cases whole
    · exact back_main n false w htab h (.inl rfl)
    · by_cases hg : 2147483647 < n ∨ (n ≤ 2147483647 ∧ n < -2147483647)
      · exact back_great n w htab h hg
      · exact back_main n true w htab h (.inr ⟨rfl, by omega, by omega⟩)

set_option maxRecDepth 100000 in
theorem back_lifted (os : Os) (started : os.Started) (H : Type) (enc : TypeId × Value → H) :
    ReturnsInHanded {} Tryd.checked os 6 .any (fun w args => (Rows.fixedBackSpec.pre enc Tryd.prog Tryd.f6 Rows.fixedBackRow.domain false w args ∧ laidMetH Tryd.prog Rows.fixedBackRow.laid w) ∧ sizedMet enc Tryd.prog Tryd.f6 (OpenSpec.ofChange Rows.fixedBackSpec) false w args) (Rows.fixedBackSpec.post enc Tryd.prog Tryd.f6 false true false false) := by
  refine returnsInHanded_of_change_and (C := Tryd.checked) (X := fun w _ => laidMetH Tryd.prog Rows.fixedBackRow.laid w) (fun _ _ _ hh h => h.of_heap hh) own started (by kernel_rfl) Tryd.func6
    (ChangeSpec.witness_shaped (enc := enc) (C := Tryd.checked) (os := os) (X := fun w _ => laidMetH Tryd.prog Rows.fixedBackRow.laid w) false (World.laidAll Tryd.prog os Rows.fixedBackRow.laid) #[.int .i64 0, .bool false] 8 (World.laidAll_os _ _ _)
      (World.shaped_of_ZipB (by kernel_rfl) (by kernel_rfl)) (by kernel_rfl) (by kernel_rfl) (by kernel_rfl)
      (by rw [MakeChecks.laidMetH_plain _ _ _ (by kernel_rfl)]; exact laidMet_laidAll _ (by kernel_rfl) (by kernel_rfl))) ?_
  intro W base args ds gs before hval0 hW hcnd _ hL _
  have htab : Tab W := tab_of_laid hL
  clear hL
  have hval : ∀ (j : Nat) t v, Tryd.f6.params[j]? = some t → args[j]? = some v → Value.okWide Tryd.prog W .any base t v := hval0
  have hW' := hW
  obtain ⟨p, q, hA0, hV, rfl, hfz, hnd⟩ := hW
  have hA : DataW.TrodAll enc Tryd.prog W 0 (fun _ => true) true Tryd.f6.params.toList args.toList ds p := hA0
  rw [Tryd.params6] at hA hval
  obtain ⟨v0, vs0, d0, ds0, p0, q0, hargs, rfl, rfl, h0, r0⟩ := trodAll_cons hA
  obtain ⟨v1, vs1, d1, ds1, p1, q1, rfl, rfl, rfl, h1, r1⟩ := trodAll_cons r0
  obtain ⟨rfl, rfl, rfl⟩ := trodAll_nil r1
  obtain rfl : args = #[v0, v1] := by cases args; simp_all
  obtain ⟨rfl, rfl⟩ := trodVars_none hV
  obtain ⟨x0, rfl⟩ := okWide_int Tryd.underlying2 (hval 0 2 v0 rfl rfl)
  obtain ⟨lo0, hi0⟩ := open_i64 h0
  have lt0 : ∀ x ∈ p0, x.block < W.heap.size := by obtain ⟨m, hm⟩ := h0; exact DataW.trod_lt m _ _ _ hm
  obtain ⟨x1, rfl⟩ := okWide_bool Tryd.underlying4 (hval 1 4 v1 rfl rfl)
  have lt1 : ∀ x ∈ p1, x.block < W.heap.size := by obtain ⟨m, hm⟩ := h1; exact DataW.trod_lt m _ _ _ hm
  have hmx : maxLen = 9223372036854775807 := by decide
  clear hA0 hval0
  refine (back_walk x0 x1 W htab lo0 hi0 ).mono fun e W' ⟨he, bel⟩ => ?_
  subst he
  exact ⟨_, rfl, _, _, _, [], _, [], hW', trodAll_mk1 (shut_bool Tryd.underlying4 _), (trodAll_cons_mk (Below.trod laidOut (by kernel_rfl) (of_decide_eq_true (by kernel_rfl)) h0 bel lt0) (trodAll_cons_mk (Below.trod laidOut (by kernel_rfl) (of_decide_eq_true (by kernel_rfl)) h1 bel lt1) trodAll_mk0)), rfl, bel.frame _, fun h => by cases h⟩

/-- FixedBack: it answers true. -/
theorem back_holds : Rows.FixedBackSaid :=
  OpenClaim.holds_of_wide 6 Tryd.f6 rfl rfl rfl rfl rfl rfl rfl ⟨rfl, rfl, rfl, rfl, rfl⟩ rfl rfl rfl rfl rfl (by kernel_rfl) Tryd.func6 (by kernel_rfl)
    (of_decide_eq_true (by kernel_rfl)) (by unfold Func.isWrapper; first | (rw [if_pos (by decide +kernel)]; kernel_rfl) | (rw [if_neg (by decide +kernel)]; exact ⟨rfl, rfl⟩))
    (fun os started H enc _ => back_lifted os started H enc)
/-- The card of FixedBack: what its row lists is tied to the program's text. -/
theorem back_card : Rows.FixedBackCardSaid :=
  Claim7.holds_tied_plain_at .later [] [.data, .data, .data, .data, .pinned] true Rows.fixedBackCard.stood.harness false back_holds (fun _ h => by cases h) (by kernel_rfl) (fun _ h => by cases h) fixedBack_row_tie rfl ⟨rfl, rfl⟩ (by kernel_rfl) rfl
    (fun f fn hf hfn => by
      obtain rfl : f = 6 := Option.some.inj ((show Tryd.prog.funcNamed "pressmark/pressmarklaw2.FixedBack" = some 6 by kernel_rfl).symm.trans hf) |>.symm
      obtain rfl : fn = Tryd.f6 := (Option.some.inj (Tryd.func6.symm.trans hfn)).symm
      exact ⟨by kernel_rfl, fun j t ht => by
        rw [Tryd.params6] at ht
        have hm : t ∈ [2, 4] := by simpa using Array.mem_of_getElem? ht
        have hall : ([2, 4].all fun u => !Tryd.prog.wantsStandIn u) = true := by kernel_rfl
        exact (show Tryd.prog.wantsStandIn t = false by simpa using List.all_eq_true.1 hall t hm)⟩)
    (by kernel_rfl)
#print axioms back_card

end Go.Proofs.YtlpehpajfinjkaaDoor
