/- LexNumbers: a number, as it is written, is one token, whole or real, wherever it stands between delimiters. No condition on the input. -/
import Derived.Test.YtojbhckgegoldaaLaw11Do
import Derived.Test.YtojbhckgegoldaaNu11
namespace Go.Proofs.Ytojbhckgegoldaa
open Go.ChangeShapes Go.WideShapes Go.ChangeAt Go.RowKit Go.Deep
set_option linter.unusedVariables false
set_option maxRecDepth 100000

theorem text_len (n : Int) (whole : Bool) : (textB n whole).length ≤ 100 := by
  have h1 := digB_le n.natAbs
  have h2 := digB_le (n.natAbs / 100000)
  have h3 : (fracB n.natAbs).length ≤ 20 := by
    obtain ⟨j, hj⟩ := stripZ_spec ((digB (100000 + n.natAbs % 100000)).drop 1)
    have e := congrArg List.length hj
    have h4 := digB_le (100000 + n.natAbs % 100000)
    rw [List.length_append, List.length_drop] at e
    show (stripZ _).length ≤ 20
    omega
  have h5 : (signB n).length ≤ 1 := by unfold signB; split <;> simp
  unfold textB
  rw [List.length_append]
  split
  · omega
  · simp only [List.length_append, List.length_singleton]; omega
theorem numbers_out (n : Int) (whole : Bool) (x : Int) (w : World) (h : inB n = false) :
    Calls Try.prog 9 #[.int .i64 n, .bool whole, .int .u8 x] w fun e w' => e = .returned (.bool true) ∧ Below w.heap.size w w' := by
  have HAW := Lib.hid (awake_any w)
  have HJ := Lib.hid (fun W => h ▸ refIn_any n W)
  clear h
  go_enter Try.func9, Try.ntmps9
  go_wp2_with (first
    | (go_at_call 10; refine HAW.out.mono ?_; (rintro e w1 ⟨rfl, hb1⟩))
    | (go_at_call 29; refine (HJ.out _).mono ?_; (rintro e w5 ⟨rfl, rfl⟩)))
  go_ret
  exact ⟨rfl, hb1⟩
theorem numbers_great (n : Int) (x : Int) (w : World) (h : inB n = true) (hg : 2147483647 < n ∨ (n ≤ 2147483647 ∧ n < -2147483647)) :
    Calls Try.prog 9 #[.int .i64 n, .bool true, .int .u8 x] w fun e w' => e = .returned (.bool true) ∧ Below w.heap.size w w' := by
  have HAW := Lib.hid (awake_any w)
  have HJ := Lib.hid (fun W => h ▸ refIn_any n W)
  clear h
  rcases hg with hg | ⟨hg, hg2⟩
  all_goals
    go_enter Try.func9, Try.ntmps9
    go_wp2_with (first
      | (go_at_call 10; refine HAW.out.mono ?_; (rintro e w1 ⟨rfl, hb1⟩))
      | (go_at_call 29; refine (HJ.out _).mono ?_; (rintro e w5 ⟨rfl, rfl⟩)))
    go_ret
    exact ⟨rfl, hb1⟩
set_option maxHeartbeats 4000000 in
theorem numbers_main (n : Int) (whole : Bool) (x : Int) (w : World) (h : inB n = true) (hw : whole = false ∨ (whole = true ∧ n ≤ 2147483647 ∧ -2147483647 ≤ n)) (n0 : -9223372036854775808 ≤ n) (n1 : n ≤ 9223372036854775807) (x0 : 0 ≤ x) (x1 : x ≤ 255) :
    Calls Try.prog 9 #[.int .i64 n, .bool whole, .int .u8 x] w fun e w' => e = .returned (.bool true) ∧ Below w.heap.size w w' := by
  have HAW := Lib.hid (awake_any w)
  have HJ := Lib.hid (fun W => h ▸ refIn_any n W)
  have HTX := Lib.hid (fun W => refText n whole W n0 n1)
  have hlen := text_len n whole
  have HNT := Lib.hid (fun e he => num_tok n whole h (fun e => by rcases hw with h1 | ⟨_, h1, h2⟩; (rw [h1] at e; cases e); exact ⟨h2, h1⟩) e he)
  obtain ⟨S, hS⟩ : ∃ S : ByteArray, (⟨(textB n whole).toArray⟩ : ByteArray) = S := ⟨_, rfl⟩
  have hSZ : strZ S = zsB (textB n whole) := by rw [← hS]; simp [strZ, zsB]
  have hSS : (textB n whole).length = S.size := by rw [← hS]; simp [ByteArray.size]
  rw [← hSZ, hSS] at HNT
  rw [hS] at HTX
  rw [hSS] at hlen
  have hcv := fun (s : ByteArray) (W : World) => conv_txt s W
  obtain ⟨E, hE, hE0, hEs⟩ : ∃ E : ByteArray, ([.string ⟨#[]⟩, .string ⟨#[32]⟩, .string ⟨#[47, 65]⟩, .string ⟨#[91]⟩, .string ⟨#[40, 120, 41]⟩, .string ⟨#[60, 60]⟩, .string ⟨#[37]⟩, .string ⟨#[62, 62]⟩] : List Value)[(x % 8).toNat]? = some (.string E) ∧ rowZ regB (strZ E) = 0 ∧ E.size ≤ 3 := by
    obtain ⟨i, hi⟩ : ∃ i, (x % 8).toNat = i := ⟨_, rfl⟩
    have hi8 : i < 8 := by omega
    rw [hi]
    clear hi
    obtain rfl | rfl | rfl | rfl | rfl | rfl | rfl | rfl : i = 0 ∨ i = 1 ∨ i = 2 ∨ i = 3 ∨ i = 4 ∨ i = 5 ∨ i = 6 ∨ i = 7 := by omega
    all_goals exact ⟨_, rfl, by decide, by decide⟩
  have HTK := Lib.hid (HNT.out _ hE0)
  rw [← strZ_app] at HTK
  have HES := Lib.hid hEs
  have HSL := Lib.hid hlen
  clear hS hSZ hSS h hE0
  rcases hw with rfl | ⟨rfl, g1, g2⟩
  · have hsum : (S ++ E).size = S.size + E.size := ByteArray.size_append
    have HSM := Lib.hid hsum
    obtain ⟨Z, hZ⟩ : ∃ Z, S ++ E = Z := ⟨_, rfl⟩
    rw [hZ] at HTK HSM
    clear hsum
    go_enter Try.func9, Try.ntmps9
    go_upto_region 7 with (first
      | (go_at_call 10; refine HAW.out.mono ?_; (rintro e w1 ⟨rfl, hb1⟩); have HB1 := Lib.hid hb1; clear hb1)
      | (go_at_call 29; refine (HJ.out _).mono ?_; (rintro e w5 ⟨rfl, rfl⟩))
      | (go_at_call 30; refine (HTX.out _).mono ?_; (rintro e w2 ⟨rfl, hb2⟩); have HB2 := Lib.hid (HB1.out.trans (hb2.mono HB1.out.size)); clear hb2))
    have hb3 := HB2.out.alloc HB2.out.size (.cells #[.string ⟨#[]⟩, .string ⟨#[32]⟩, .string ⟨#[47, 65]⟩, .string ⟨#[91]⟩, .string ⟨#[40, 120, 41]⟩, .string ⟨#[60, 60]⟩, .string ⟨#[37]⟩, .string ⟨#[62, 62]⟩] 9)
    obtain ⟨w3, hw3⟩ : ∃ w3, w2.alloc (.cells #[.string ⟨#[]⟩, .string ⟨#[32]⟩, .string ⟨#[47, 65]⟩, .string ⟨#[91]⟩, .string ⟨#[40, 120, 41]⟩, .string ⟨#[60, 60]⟩, .string ⟨#[37]⟩, .string ⟨#[62, 62]⟩] 9) = w3 := ⟨_, rfl⟩
    rw [hw3] at hb3
    rw [hw3]
    have hby := strZ_byt w3 Z
    have hbl := strZ_below w3 Z
    have hcz := hcv Z w3
    obtain ⟨w4, hw4⟩ : ∃ w4, Lib.bytesWorld w3 5 Z = w4 := ⟨_, rfl⟩
    have hs4 : w4.heap.size = w3.heap.size + 1 := by rw [← hw4, Lib.bytesWorld_size]
    rw [hw4] at hby hbl hcz
    obtain ⟨cz, hcc⟩ : ∃ cz, grownCap w3 Z.size 0 5 = cz := ⟨_, rfl⟩
    rw [hcc] at hby hcz
    have HNEW := Lib.hid (ls_new w w4 _ Z.size cz (strZ Z) (by rw [hs4]; exact hby) (hb3.trans (hbl.mono hb3.size)))
    have HT1 := Lib.hid (fun W h g A c (x : LS w W h g A Z.size c 0 (strZ Z)) => ls_tok (by have := HSM.out; have := HSL.out; have := HES.out; omega) x HTK.out.2 HTK.out.1)
    clear hby hbl hb3 hw4 hs4 hcc hw3 hcv hE
    go_upto_region 9 with (first
      | (go_at_call 11; refine HNEW.out.mono ?_; (rintro r w5 ⟨rfl, hl5, hs5, hb5⟩); have HL5 := Lib.hid hl5; clear hl5 hs5 hb5)
      | (go_at_call 12; refine (HT1.out _ _ _ _ _ HL5.out).mono ?_; (rintro r w6 ⟨A1, m1, c1, rfl, hl6, ho6, hy6, hf6⟩); obtain rfl : 0 = m1 := hy6.len; have HL6 := Lib.hid hl6; clear hl6 ho6 hy6 hf6))
    have hbx := Bx.new w6 28 (.int .i64 2) (.int .i64 (0 : Nat)) (.int .i64 n) (.slice A1 0 c1)
    have hl7 := HL6.out.alloc (.cells #[.int .i64 2, .int .i64 (0 : Nat), .int .i64 n, .slice A1 0 c1] 28)
    obtain ⟨w7, hw7⟩ : ∃ w7, w6.alloc (.cells #[.int .i64 2, .int .i64 (0 : Nat), .int .i64 n, .slice A1 0 c1] 28) = w7 := ⟨_, rfl⟩
    rw [hw7] at hbx hl7
    rw [show w6.alloc (.cells #[.int .i64 2, .int .i64 0, .int .i64 n, .slice A1 0 c1] 28) = w7 from hw7]
    have t0 := hbx.c0
    have t1 := hbx.c1
    have t2 := hbx.c2
    have t3 := hbx.c3
    have k0 := hl7.lx.k0
    have HPO := Lib.hid (pos_any w4.heap.size Z.size _ S.size _ w7 hl7.lx.cu)
    have HBL := Lib.hid hl7.bl
    clear hbx hl7 hw7
    go_wp2_with (go_at_call 16; refine HPO.out.mono ?_; (rintro r w8 ⟨rfl, rfl⟩); dsimp only)
    go_ret
    exact ⟨rfl, HBL.out⟩
  · have hsum : (S ++ E).size = S.size + E.size := ByteArray.size_append
    have HSM := Lib.hid hsum
    obtain ⟨Z, hZ⟩ : ∃ Z, S ++ E = Z := ⟨_, rfl⟩
    rw [hZ] at HTK HSM
    clear hsum
    go_enter Try.func9, Try.ntmps9
    go_upto_region 7 with (first
      | (go_at_call 10; refine HAW.out.mono ?_; (rintro e w1 ⟨rfl, hb1⟩); have HB1 := Lib.hid hb1; clear hb1)
      | (go_at_call 29; refine (HJ.out _).mono ?_; (rintro e w5 ⟨rfl, rfl⟩))
      | (go_at_call 30; refine (HTX.out _).mono ?_; (rintro e w2 ⟨rfl, hb2⟩); have HB2 := Lib.hid (HB1.out.trans (hb2.mono HB1.out.size)); clear hb2))
    have hb3 := HB2.out.alloc HB2.out.size (.cells #[.string ⟨#[]⟩, .string ⟨#[32]⟩, .string ⟨#[47, 65]⟩, .string ⟨#[91]⟩, .string ⟨#[40, 120, 41]⟩, .string ⟨#[60, 60]⟩, .string ⟨#[37]⟩, .string ⟨#[62, 62]⟩] 9)
    obtain ⟨w3, hw3⟩ : ∃ w3, w2.alloc (.cells #[.string ⟨#[]⟩, .string ⟨#[32]⟩, .string ⟨#[47, 65]⟩, .string ⟨#[91]⟩, .string ⟨#[40, 120, 41]⟩, .string ⟨#[60, 60]⟩, .string ⟨#[37]⟩, .string ⟨#[62, 62]⟩] 9) = w3 := ⟨_, rfl⟩
    rw [hw3] at hb3
    rw [hw3]
    have hby := strZ_byt w3 Z
    have hbl := strZ_below w3 Z
    have hcz := hcv Z w3
    obtain ⟨w4, hw4⟩ : ∃ w4, Lib.bytesWorld w3 5 Z = w4 := ⟨_, rfl⟩
    have hs4 : w4.heap.size = w3.heap.size + 1 := by rw [← hw4, Lib.bytesWorld_size]
    rw [hw4] at hby hbl hcz
    obtain ⟨cz, hcc⟩ : ∃ cz, grownCap w3 Z.size 0 5 = cz := ⟨_, rfl⟩
    rw [hcc] at hby hcz
    have HNEW := Lib.hid (ls_new w w4 _ Z.size cz (strZ Z) (by rw [hs4]; exact hby) (hb3.trans (hbl.mono hb3.size)))
    have HT1 := Lib.hid (fun W h g A c (x : LS w W h g A Z.size c 0 (strZ Z)) => ls_tok (by have := HSM.out; have := HSL.out; have := HES.out; omega) x HTK.out.2 HTK.out.1)
    clear hby hbl hb3 hw4 hs4 hcc hw3 hcv hE
    go_upto_region 9 with (first
      | (go_at_call 11; refine HNEW.out.mono ?_; (rintro r w5 ⟨rfl, hl5, hs5, hb5⟩); have HL5 := Lib.hid hl5; clear hl5 hs5 hb5)
      | (go_at_call 12; refine (HT1.out _ _ _ _ _ HL5.out).mono ?_; (rintro r w6 ⟨A1, m1, c1, rfl, hl6, ho6, hy6, hf6⟩); obtain rfl : 0 = m1 := hy6.len; have HL6 := Lib.hid hl6; clear hl6 ho6 hy6 hf6))
    have hbx := Bx.new w6 28 (.int .i64 1) (.int .i64 (0 : Nat)) (.int .i64 n) (.slice A1 0 c1)
    have hl7 := HL6.out.alloc (.cells #[.int .i64 1, .int .i64 (0 : Nat), .int .i64 n, .slice A1 0 c1] 28)
    obtain ⟨w7, hw7⟩ : ∃ w7, w6.alloc (.cells #[.int .i64 1, .int .i64 (0 : Nat), .int .i64 n, .slice A1 0 c1] 28) = w7 := ⟨_, rfl⟩
    rw [hw7] at hbx hl7
    rw [show w6.alloc (.cells #[.int .i64 1, .int .i64 0, .int .i64 n, .slice A1 0 c1] 28) = w7 from hw7]
    have t0 := hbx.c0
    have t1 := hbx.c1
    have t2 := hbx.c2
    have t3 := hbx.c3
    have k0 := hl7.lx.k0
    have HPO := Lib.hid (pos_any w4.heap.size Z.size _ S.size _ w7 hl7.lx.cu)
    have HBL := Lib.hid hl7.bl
    clear hbx hl7 hw7
    go_wp2_with (go_at_call 16; refine HPO.out.mono ?_; (rintro r w8 ⟨rfl, rfl⟩); dsimp only)
    go_ret
    exact ⟨rfl, HBL.out⟩

theorem numbers_walk (n : Int) (whole : Bool) (x : Int) (w : World) (n0 : -9223372036854775808 ≤ n) (n1 : n ≤ 9223372036854775807) (x0 : 0 ≤ x) (x1 : x ≤ 255) :
    Calls Try.prog 9 #[.int .i64 n, .bool whole, .int .u8 x] w fun e w' => e = .returned (.bool true) ∧ Below w.heap.size w w' := by
  rcases h : inB n with _ | _
  · exact numbers_out n whole x w h
  · rcases whole with _ | _
    · exact numbers_main n false x w h (.inl rfl) n0 n1 x0 x1
    · by_cases hg : 2147483647 < n ∨ (n ≤ 2147483647 ∧ n < -2147483647)
      · exact numbers_great n x w h hg
      · exact numbers_main n true x w h (.inr ⟨rfl, by omega, by omega⟩) n0 n1 x0 x1
set_option maxRecDepth 100000 in
theorem numbers_lifted (os : Os) (started : os.Started) (H : Type) (enc : TypeId × Value → H) :
    ReturnsInHanded {} Try.checked os 9 .any (Rows.lexNumbersSpec.pre6 enc Try.prog Try.f9 Rows.lexNumbersRow.domain false) (Rows.lexNumbersSpec.post enc Try.prog Try.f9 false true false false) := by
  refine returnsInHanded_of_change (C := Try.checked) own started (by kernel_rfl) Try.func9
    (ChangeSpec.witness6 (enc := enc) (C := Try.checked) false ⟨#[], #[.int .i64 0, .bool false, .int .u8 0], []⟩ 8 (by kernel_rfl) (by kernel_rfl) (by kernel_rfl) (by kernel_rfl)) ?_
  intro W base args ds gs before hval0 hW hcnd _
  have hval : ∀ (j : Nat) t v, Try.f9.params[j]? = some t → args[j]? = some v → Value.okWide Try.prog W .any base t v := hval0
  have hW' := hW
  obtain ⟨p, q, hA0, hV, rfl, hfz, hnd⟩ := hW
  have hA : DataW.TrodAll enc Try.prog W 0 (fun _ => true) true Try.f9.params.toList args.toList ds p := hA0
  rw [Try.params9] at hA hval
  obtain ⟨v0, vs0, d0, ds0, p0, q0, hargs, rfl, rfl, h0, r0⟩ := trodAll_cons hA
  obtain ⟨v1, vs1, d1, ds1, p1, q1, rfl, rfl, rfl, h1, r1⟩ := trodAll_cons r0
  obtain ⟨v2, vs2, d2, ds2, p2, q2, rfl, rfl, rfl, h2, r2⟩ := trodAll_cons r1
  obtain ⟨rfl, rfl, rfl⟩ := trodAll_nil r2
  obtain rfl : args = #[v0, v1, v2] := by cases args; simp_all
  obtain ⟨rfl, rfl⟩ := trodVars_none hV
  obtain ⟨x0, rfl⟩ := okWide_int Try.underlying2 (hval 0 2 v0 rfl rfl)
  obtain ⟨lo0, hi0⟩ := open_intk Try.underlying2 h0
  rw [show IntKind.i64.min = -9223372036854775808 by decide] at lo0
  rw [show IntKind.i64.max = 9223372036854775807 by decide] at hi0
  have lt0 : ∀ x ∈ p0, x.block < W.heap.size := by obtain ⟨m, hm⟩ := h0; exact DataW.trod_lt m _ _ _ hm
  obtain ⟨x1, rfl⟩ := okWide_bool Try.underlying4 (hval 1 4 v1 rfl rfl)
  have lt1 : ∀ x ∈ p1, x.block < W.heap.size := by obtain ⟨m, hm⟩ := h1; exact DataW.trod_lt m _ _ _ hm
  obtain ⟨x2, rfl⟩ := okWide_int Try.underlying5 (hval 2 5 v2 rfl rfl)
  obtain ⟨lo2, hi2⟩ := open_intk Try.underlying5 h2
  rw [show IntKind.u8.min = 0 by decide] at lo2
  rw [show IntKind.u8.max = 255 by decide] at hi2
  have lt2 : ∀ x ∈ p2, x.block < W.heap.size := by obtain ⟨m, hm⟩ := h2; exact DataW.trod_lt m _ _ _ hm
  have hmx : maxLen = 9223372036854775807 := by decide
  clear hA0 hval0
  refine (numbers_walk x0 x1 x2 W lo0 hi0 lo2 hi2).mono fun e W' ⟨he, bel⟩ => ?_
  subst he
  exact ⟨_, rfl, _, _, _, [], _, [], hW', trodAll_mk1 (shut_bool Try.underlying4 _), (trodAll_cons_mk (Below.trod laidOut (by kernel_rfl) (of_decide_eq_true (by kernel_rfl)) h0 bel lt0) (trodAll_cons_mk (Below.trod laidOut (by kernel_rfl) (of_decide_eq_true (by kernel_rfl)) h1 bel lt1) (trodAll_cons_mk (Below.trod laidOut (by kernel_rfl) (of_decide_eq_true (by kernel_rfl)) h2 bel lt2) trodAll_mk0))), rfl, bel.frame _, fun h => by cases h⟩

/-- LexNumbers: it answers true. -/
theorem numbers_holds : Rows.LexNumbersSaid :=
  OpenClaim.holds_of_wide 9 Try.f9 rfl rfl rfl rfl rfl rfl rfl ⟨rfl, rfl, rfl, rfl, rfl⟩ rfl rfl rfl rfl rfl (by kernel_rfl) Try.func9 (by kernel_rfl)
    (of_decide_eq_true (by kernel_rfl)) (by unfold Func.isWrapper; first | (rw [if_pos (by decide +kernel)]; kernel_rfl) | (rw [if_neg (by decide +kernel)]; exact ⟨rfl, rfl⟩))
    (fun os started H enc _ => numbers_lifted os started H enc)
#print axioms numbers_holds

end Go.Proofs.Ytojbhckgegoldaa
