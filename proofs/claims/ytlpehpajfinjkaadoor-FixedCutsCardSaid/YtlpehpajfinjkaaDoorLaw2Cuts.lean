/- FixedCuts: of digits behind the fifth none counts; noughts ahead, a plus, a minus. No condition on the input. -/
import Derived.Test.YtlpehpajfinjkaaDoorLaid2
import Derived.Test.YtlpehpajfinjkaaDoorOpen2
import Derived.Outline
import Derived.LoopTactic
import Derived.WalkLawsBesides
import Derived.Laws.Concat
import Derived.Lib.IndexBytes
namespace Go.Proofs.YtlpehpajfinjkaaDoor
open Go.ChangeShapes Go.WideShapes Go.ChangeAt Go.RowKit Go.Deep
set_option linter.unusedVariables false

set_option maxRecDepth 100000 in
theorem open_arr5 {H : Type} {enc : TypeId × Value → H} {W : World} {base : Nat} {sp : Nat → Bool} {held : Bool} {v : Value} {d : DataW H} {p : List MemPlace} {r : Reach} {b0 : Nat}
    (hv : Value.okWide Tryd.prog W r b0 40 v) (h : DataW.Trod enc Tryd.prog W base sp held 40 v d p) :
    ∃ p0 p1 p2 p3 p4 : Int, v = .agg #[.int .u8 p0, .int .u8 p1, .int .u8 p2, .int .u8 p3, .int .u8 p4] ∧ (0 ≤ p0 ∧ p0 < 256) ∧ (0 ≤ p1 ∧ p1 < 256) ∧ (0 ≤ p2 ∧ p2 < 256) ∧ (0 ≤ p3 ∧ p3 < 256) ∧ (0 ≤ p4 ∧ p4 < 256) := by
  simp only [Value.okWide, Tryd.underlying40] at hv
  obtain ⟨cs, rfl, hsz, _⟩ := hv
  have h5 : Tryd.prog.cellsOf 40 = 5 := by kernel_rfl
  have h1 : Tryd.prog.cellsOf 5 = 1 := by kernel_rfl
  obtain ⟨fuel, hf⟩ := h
  obtain ⟨xs, m, _, _, hl, hxl, hi⟩ := DataW.trod_array Tryd.underlying40 hf
  rw [h5] at hsz
  obtain ⟨l⟩ := cs
  match l, hsz with
  | [c0, c1, c2, c3, c4], _ =>
    have one : ∀ i c, i < 5 → ([c0, c1, c2, c3, c4].drop i).take 1 = [c] → ∃ z, c = .int .u8 z ∧ 0 ≤ z ∧ z < 256 := by
      intro i c h e
      have := hi i h
      rw [h1, Nat.mul_one] at this
      rw [show (Value.agg { toList := [c0, c1, c2, c3, c4] }).cells.toList = [c0, c1, c2, c3, c4] from rfl, e, List.getElem?_eq_getElem (by omega)] at this
      obtain ⟨z, hz, _, hw⟩ := DataW.trod_int Tryd.underlying5 this
      injection hz with hz _
      exact ⟨z, hz, byte_wf hw⟩
    obtain ⟨p0, rfl, a0⟩ := one 0 c0 (by omega) rfl
    obtain ⟨p1, rfl, a1⟩ := one 1 c1 (by omega) rfl
    obtain ⟨p2, rfl, a2⟩ := one 2 c2 (by omega) rfl
    obtain ⟨p3, rfl, a3⟩ := one 3 c3 (by omega) rfl
    obtain ⟨p4, rfl, a4⟩ := one 4 c4 (by omega) rfl
    exact ⟨p0, p1, p2, p3, p4, rfl, a0, a1, a2, a3, a4⟩

/-- One digit as a text. -/
def chr1 (z : Int) : ByteArray := ⟨#[UInt8.ofNat (48 + z % 10).toNat]⟩
theorem chr1_size (z : Int) : (chr1 z).size ≤ 1 := Nat.le_refl _
theorem conv_digit (z : Int) (h : 0 ≤ z ∧ z < 256) (W : World) : (convert 26 9 (.slice (some ⟨W.heap.size, 0, none⟩) 1 1)).run Tryd.prog (W.alloc (.cells #[.int .u8 (48 + z % 10)] 5)) = .ok (.string (chr1 z)) (W.alloc (.cells #[.int .u8 (48 + z % 10)] 5)) := by
  have hb := byt_one W (0, 0) (48 + z % 10) (by omega)
  exact hb.inn.convert (P := Tryd.prog) hb.len 1 26 5 9 Tryd.underlying26 Tryd.underlying5 Tryd.underlying9

/-- A digit as a number. -/
def digI (z : Int) : Int := 48 + z % 10
theorem digI_dig (z : Int) : 48 ≤ digI z ∧ digI z ≤ 57 := by unfold digI; omega
theorem chr1_zs (z : Int) : zsB (chr1 z).data.toList = [digI z] := by
  unfold chr1 zsB digI
  have h : ((UInt8.ofNat (48 + z % 10).toNat).toNat : Int) = 48 + z % 10 := by
    have : (48 + z % 10).toNat % 256 = (48 + z % 10).toNat := by omega
    simp [UInt8.toNat_ofNat']
    omega
  simpa using h
theorem frac5 (p0 p1 p2 p3 p4 : Int) : fracK [digI p0, digI p1, digI p2, digI p3, digI p4] 5 = p0 % 10 * 10000 + p1 % 10 * 1000 + p2 % 10 * 100 + p3 % 10 * 10 + p4 % 10 := by
  show 10 * (10 * (10 * (10 * (10 * 0 + (digI p0 - 48)) + (digI p1 - 48)) + (digI p2 - 48)) + (digI p3 - 48)) + (digI p4 - 48) = _
  unfold digI
  omega
theorem cut_rest (neg : Bool) (D F M : List Int) (U : Nat) (hD : Digs D) (h0 : D ≠ []) (hv : valZ D 0 = U) (hU : U ≤ 2147483647) (hF : Digs F) (hl : F.length = 5) (hM : Digs M) : restS neg (D ++ 46 :: (F ++ M)) = (sgZ neg (U * 100000 + fracK F 5), false, 0) := by
  rw [restS_point neg D (F ++ M) hD (hF.app hM) h0 (by omega), hv, fracK_more F M 5 (by omega)]
theorem cut_parse (U : Nat) (hU : U ≤ 2147483647) (F M : List Int) (hF : Digs F) (hl : F.length = 5) (hM : Digs M) :
    parseS (zsB (digB U) ++ 46 :: (F ++ M)) = (U * 100000 + fracK F 5, false, 0) ∧ parseS (43 :: 48 :: 48 :: (zsB (digB U) ++ 46 :: (F ++ M))) = (U * 100000 + fracK F 5, false, 0) ∧ parseS (45 :: (zsB (digB U) ++ 46 :: (F ++ M))) = (-(U * 100000 + fracK F 5), false, 0) := by
  have hv := digB_val U (by omega)
  refine ⟨?_, ?_, ?_⟩
  · rw [parseS_digs _ _ (digB_digs U) (digB_ne U)]
    exact cut_rest false _ F M U (digB_digs U) (digB_ne U) hv hU hF hl hM
  · rw [parseS_pos]
    have hd : Digs (48 :: 48 :: zsB (digB U)) := fun z hz => by
      rcases List.mem_cons.1 hz with rfl | hz
      · omega
      · rcases List.mem_cons.1 hz with rfl | hz
        · omega
        · exact digB_digs U z hz
    exact cut_rest false (48 :: 48 :: zsB (digB U)) F M U hd (fun h => by cases h) hv hU hF hl hM
  · rw [parseS_neg]
    exact cut_rest true _ F M U (digB_digs U) (digB_ne U) hv hU hF hl hM

theorem zsB_digs (l : List Int) : Digs (zsB (l.map fun z => UInt8.ofNat (48 + z % 10).toNat)) := by
  intro y hy
  unfold zsB at hy
  rw [List.map_map] at hy
  obtain ⟨z, _, rfl⟩ := List.mem_map.1 hy
  have := digI_dig z
  have h2 : digI z = ((UInt8.ofNat (48 + z % 10).toNat).toNat : Int) := by
    have := chr1_zs z
    simpa [zsB, chr1] using this.symm
  show 48 ≤ ((UInt8.ofNat (48 + z % 10).toNat).toNat : Int) ∧ ((UInt8.ofNat (48 + z % 10).toNat).toNat : Int) ≤ 57
  rw [← h2]; exact this
theorem cut_zs (U : Nat) (S : ByteArray) (hS : (⟨(textB (U : Int) true).toArray⟩ : ByteArray) = S) (p0 p1 p2 p3 p4 : Int) :
    zsB (S ++ ⟨#[46]⟩ ++ chr1 p0 ++ chr1 p1 ++ chr1 p2 ++ chr1 p3 ++ chr1 p4).data.toList = zsB (digB U) ++ 46 :: [digI p0, digI p1, digI p2, digI p3, digI p4] := by
  have e : textB (U : Int) true = digB U := by
    unfold textB signB
    rw [if_neg (by omega), if_pos rfl, List.nil_append]
    rfl
  have h46 : zsB (⟨#[46]⟩ : ByteArray).data.toList = [46] := rfl
  rw [← hS, e]
  simp only [ByteArray.data_append, Array.toList_append, zsB_append, chr1_zs, h46]
  simp

set_option maxHeartbeats 1000000 in
theorem cuts_in (u p0 p1 p2 p3 p4 : Int) (A : Option Addr) (n c : Nat) (zs : List Int) (w : World) (htab : Tab w) (hu : 0 ≤ u) (hu2 : u ≤ 2147483647) (a0 : 0 ≤ p0 ∧ p0 < 256) (a1 : 0 ≤ p1 ∧ p1 < 256) (a2 : 0 ≤ p2 ∧ p2 < 256) (a3 : 0 ≤ p3 ∧ p3 < 256) (a4 : 0 ≤ p4 ∧ p4 < 256) (hz : Byt w w.heap.size A n c zs) (hn : n ≤ 50) :
    Calls Tryd.prog 9 #[.int .u32 u, .agg #[.int .u8 p0, .int .u8 p1, .int .u8 p2, .int .u8 p3, .int .u8 p4], .slice A n c] w fun e w' => e = .returned (.bool true) ∧ Below w.heap.size w w' := by
  have HTB := Lib.hid htab
  have HAW := Lib.hid (fun W (hb : Below w.heap.size w W) => awake_any W (htab.below hb (Nat.le_refl _)))
  clear htab
  have HZ := Lib.hid hz
  obtain ⟨U, rfl⟩ : ∃ U : Nat, u = U := ⟨u.toNat, by omega⟩
  obtain ⟨S, hS⟩ : ∃ S : ByteArray, ⟨(textB (U : Int) true).toArray⟩ = S := ⟨_, rfl⟩
  have HT := Lib.hid (fun W => hS ▸ refText (U : Int) true W (by omega) (by omega))
  have hSs : S.size ≤ 21 := by
    rw [← hS]
    show (textB (U : Int) true).length ≤ 21
    unfold textB signB
    have := digB_le ((U : Int)).natAbs
    rw [if_neg (by omega), if_pos rfl]
    simpa using Nat.le_succ_of_le this
  have HS := Lib.hid hS
  have hv0 := conv_digit p0 a0
  have hv1 := conv_digit p1 a1
  have hv2 := conv_digit p2 a2
  have hv3 := conv_digit p3 a3
  have hv4 := conv_digit p4 a4
  obtain ⟨T0, hT0⟩ : ∃ T, chr1 p0 = T := ⟨_, rfl⟩
  obtain ⟨T1, hT1⟩ : ∃ T, chr1 p1 = T := ⟨_, rfl⟩
  obtain ⟨T2, hT2⟩ : ∃ T, chr1 p2 = T := ⟨_, rfl⟩
  obtain ⟨T3, hT3⟩ : ∃ T, chr1 p3 = T := ⟨_, rfl⟩
  obtain ⟨T4, hT4⟩ : ∃ T, chr1 p4 = T := ⟨_, rfl⟩
  have t0 : T0.size ≤ 1 := hT0 ▸ chr1_size p0
  have t1 : T1.size ≤ 1 := hT1 ▸ chr1_size p1
  have t2 : T2.size ≤ 1 := hT2 ▸ chr1_size p2
  have t3 : T3.size ≤ 1 := hT3 ▸ chr1_size p3
  have t4 : T4.size ≤ 1 := hT4 ▸ chr1_size p4
  rw [hT0] at hv0
  rw [hT1] at hv1
  rw [hT2] at hv2
  rw [hT3] at hv3
  rw [hT4] at hv4
  have HT0 := Lib.hid hT0
  have HT1 := Lib.hid hT1
  have HT2 := Lib.hid hT2
  have HT3 := Lib.hid hT3
  have HT4 := Lib.hid hT4
  obtain ⟨a0l, a0h⟩ := a0
  obtain ⟨a1l, a1h⟩ := a1
  obtain ⟨a2l, a2h⟩ := a2
  obtain ⟨a3l, a3h⟩ := a3
  obtain ⟨a4l, a4h⟩ := a4
  clear hz hS hT0 hT1 hT2 hT3 hT4
  obtain ⟨W1, hW1⟩ : ∃ W1, W1 = w.alloc (.cells #[.int .u8 p0, .int .u8 p1, .int .u8 p2, .int .u8 p3, .int .u8 p4] 40) := ⟨_, rfl⟩
  have hc : ∀ w2, Below W1.heap.size W1 w2 → w2.cell? ⟨w.heap.size, 0, none⟩ = some (.int .u8 p0) ∧ w2.cell? ⟨w.heap.size, 1, none⟩ = some (.int .u8 p1) ∧ w2.cell? ⟨w.heap.size, 2, none⟩ = some (.int .u8 p2) ∧ w2.cell? ⟨w.heap.size, 3, none⟩ = some (.int .u8 p3) ∧ w2.cell? ⟨w.heap.size, 4, none⟩ = some (.int .u8 p4) := by
    intro w2 hb
    have hlt : w.heap.size < W1.heap.size := by rw [hW1]; simp
    have one : ∀ i, w2.cell? ⟨w.heap.size, i, none⟩ = W1.cell? ⟨w.heap.size, i, none⟩ := fun i => hb.cell (p := ⟨w.heap.size, i, none⟩) hlt
    rw [one, one, one, one, one, hW1]
    refine ⟨?_, ?_, ?_, ?_, ?_⟩
    all_goals
      rw [World.cell?_alloc_mark]
      rfl
  have HBW1 : Hid (Below w.heap.size w W1) := Lib.hid (by rw [hW1]; exact (Below.refl _ _).alloc (Nat.le_refl _) _)
  have HW1 := Lib.hid hW1
  have HC := Lib.hid hc
  clear hc hW1
  go_enter Tryd.func9, Tryd.ntmps9
  go_wp2_with (first
    | (go_at_call 11; rw [← HW1.out]; refine (HAW.out _ (by rw [HW1.out]; exact (Below.refl _ w).alloc (Nat.le_refl _) _)).mono ?_; rintro e w1 ⟨rfl, q1⟩)
    | (go_at_call 17; refine (HT.out _).mono ?_; rintro e w2 ⟨rfl, q2⟩; have r2 := q1.trans (q2.mono q1.size); obtain ⟨c0, c1, c2, c3, c4⟩ := HC.out w2 r2))
  go_loopw [7, 8, 9, 10] (fun s wt un i wr => Below W1.heap.size W1 wr ∧ ((i = .int .i64 0 ∧ s = .string (S ++ ⟨#[46]⟩) ∧ wt = .int .i64 ((U : Int) * 100000) ∧ un = .int .i64 10000) ∨ (i = .int .i64 1 ∧ s = .string (S ++ ⟨#[46]⟩ ++ T0) ∧ wt = .int .i64 ((U : Int) * 100000 + p0 % 10 * 10000) ∧ un = .int .i64 1000) ∨ (i = .int .i64 2 ∧ s = .string (S ++ ⟨#[46]⟩ ++ T0 ++ T1) ∧ wt = .int .i64 ((U : Int) * 100000 + p0 % 10 * 10000 + p1 % 10 * 1000) ∧ un = .int .i64 100) ∨ (i = .int .i64 3 ∧ s = .string (S ++ ⟨#[46]⟩ ++ T0 ++ T1 ++ T2) ∧ wt = .int .i64 ((U : Int) * 100000 + p0 % 10 * 10000 + p1 % 10 * 1000 + p2 % 10 * 100) ∧ un = .int .i64 10) ∨ (i = .int .i64 4 ∧ s = .string (S ++ ⟨#[46]⟩ ++ T0 ++ T1 ++ T2 ++ T3) ∧ wt = .int .i64 ((U : Int) * 100000 + p0 % 10 * 10000 + p1 % 10 * 1000 + p2 % 10 * 100 + p3 % 10 * 10) ∧ un = .int .i64 1) ∨ (i = .int .i64 5 ∧ s = .string (S ++ ⟨#[46]⟩ ++ T0 ++ T1 ++ T2 ++ T3 ++ T4) ∧ wt = .int .i64 ((U : Int) * 100000 + p0 % 10 * 10000 + p1 % 10 * 1000 + p2 % 10 * 100 + p3 % 10 * 10 + p4 % 10 * 1) ∧ un = .int .i64 0))) (fun _ _ _ i _ => 5 - (intOf i).toNat)
  case atStart => exact ⟨r2, .inl ⟨rfl, rfl, rfl, rfl⟩⟩
  case round =>
    obtain ⟨hbel, hrel⟩ := hrel
    have HBE := Lib.hid hbel
    obtain ⟨c0, c1, c2, c3, c4⟩ := HC.out wr hbel
    have e0 := fun o => (HC.out (wr.alloc o) (HBE.out.alloc HBE.out.size o)).1
    have e1 := fun o => (HC.out (wr.alloc o) (HBE.out.alloc HBE.out.size o)).2.1
    have e2 := fun o => (HC.out (wr.alloc o) (HBE.out.alloc HBE.out.size o)).2.2.1
    have e3 := fun o => (HC.out (wr.alloc o) (HBE.out.alloc HBE.out.size o)).2.2.2.1
    have e4 := fun o => (HC.out (wr.alloc o) (HBE.out.alloc HBE.out.size o)).2.2.2.2
    clear hbel
    rcases hrel with ⟨rfl, rfl, rfl, rfl⟩ | ⟨rfl, rfl, rfl, rfl⟩ | ⟨rfl, rfl, rfl, rfl⟩ | ⟨rfl, rfl, rfl, rfl⟩ | ⟨rfl, rfl, rfl, rfl⟩ | ⟨rfl, rfl, rfl, rfl⟩
    · go_wp2
      go_roundw
      case rel => exact ⟨HBE.out.alloc HBE.out.size _, .inr (.inl ⟨by go_num, rfl, int_eq (by omega), by go_num⟩)⟩
      case measure => simp [intOf]
    · go_wp2
      go_roundw
      case rel => exact ⟨HBE.out.alloc HBE.out.size _, .inr (.inr (.inl ⟨by go_num, rfl, int_eq (by omega), by go_num⟩))⟩
      case measure => simp [intOf]
    · go_wp2
      go_roundw
      case rel => exact ⟨HBE.out.alloc HBE.out.size _, .inr (.inr (.inr (.inl ⟨by go_num, rfl, int_eq (by omega), by go_num⟩)))⟩
      case measure => simp [intOf]
    · go_wp2
      go_roundw
      case rel => exact ⟨HBE.out.alloc HBE.out.size _, .inr (.inr (.inr (.inr (.inl ⟨by go_num, rfl, int_eq (by omega), by go_num⟩))))⟩
      case measure => simp [intOf]
    · go_wp2
      go_roundw
      case rel => exact ⟨HBE.out.alloc HBE.out.size _, .inr (.inr (.inr (.inr (.inr (⟨by go_num, rfl, int_eq (by omega), by go_num⟩)))))⟩
      case measure => simp [intOf]
    · go_wp2
      obtain ⟨S5, hS5⟩ : ∃ S5, S ++ ⟨#[46]⟩ ++ T0 ++ T1 ++ T2 ++ T3 ++ T4 = S5 := ⟨_, rfl⟩
      obtain ⟨X, hX⟩ : ∃ X : Int, (U : Int) * 100000 + p0 % 10 * 10000 + p1 % 10 * 1000 + p2 % 10 * 100 + p3 % 10 * 10 + p4 % 10 * 1 = X := ⟨_, rfl⟩
      have x0 : 0 ≤ X := by omega
      have x1 : X ≤ 214748364799999 := by omega
      have s5 : S5.size ≤ 27 := by
        rw [← hS5]
        simp only [ByteArray.size_append]
        have : (⟨#[46]⟩ : ByteArray).size = 1 := rfl
        omega
      rw [hS5, hX]
      have HX := Lib.hid hX
      have HS5 := Lib.hid hS5
      have HZ5 : Hid (zsB S5.data.toList = zsB (digB U) ++ 46 :: [digI p0, digI p1, digI p2, digI p3, digI p4]) := Lib.hid (by
        rw [← hS5, ← HT0.out, ← HT1.out, ← HT2.out, ← HT3.out, ← HT4.out]
        exact cut_zs U S HS.out p0 p1 p2 p3 p4)
      have hF : Digs [digI p0, digI p1, digI p2, digI p3, digI p4] := fun z hz => by
        simp only [List.mem_cons, List.not_mem_nil, or_false] at hz
        rcases hz with rfl | rfl | rfl | rfl | rfl <;> exact digI_dig _
      have hfx : (U : Int) * 100000 + fracK [digI p0, digI p1, digI p2, digI p3, digI p4] 5 = X := by rw [frac5, ← hX]; omega
      have HPA : Hid (∀ M, Digs M → parseS (zsB S5.data.toList ++ M) = (X, false, 0) ∧ parseS (43 :: 48 :: 48 :: (zsB S5.data.toList ++ M)) = (X, false, 0) ∧ parseS (45 :: (zsB S5.data.toList ++ M)) = (-X, false, 0)) := Lib.hid (fun M hM => by
        have h := cut_parse U (by omega) _ M hF rfl hM
        rw [hfx] at h
        rw [HZ5.out, List.append_assoc, List.cons_append]
        exact h)
      clear hF hfx
      clear hX hS5 c0 c1 c2 c3 c4 e0 e1 e2 e3 e4 hv0 hv1 hv2 hv3 hv4 t0 t1 t2 t3 t4
      go_loopw [11, 12] (fun t i ws => ∃ (k : Nat) (T : ByteArray), k ≤ n ∧ i = .int .i64 k ∧ t = .string T ∧ T.size ≤ 27 + k ∧ Hid (T.data.toList = S5.data.toList ++ ((zs.take k).map fun z => UInt8.ofNat (48 + z % 10).toNat)) ∧ Below W1.heap.size W1 ws) (fun _ i _ => n - (intOf i).toNat)
      case atStart => exact ⟨0, S5, Nat.zero_le _, rfl, rfl, by omega, Lib.hid (by simp), HBE.out⟩
      case round =>
        obtain ⟨k, T, hk, rfl, rfl, hts, htl, hbel⟩ := hrel
        have HBS := Lib.hid hbel
        have HTL := Lib.hid htl.out
        by_cases hlt : k < n
        · have hzw := HZ.out.below (HBW1.out.trans (hbel.mono HBW1.out.size)) (Nat.le_refl _)
          obtain ⟨b, o, rfl, _, hcc⟩ := hzw.cell (by omega)
          have ck := hcc k hlt
          have hy0 := HZ.out.getD k
          have htk : zs.take (k + 1) = zs.take k ++ [zs.getD k 0] := take_snocZ zs k (by rw [HZ.out.len]; exact hlt)
          obtain ⟨y, hy⟩ : ∃ y, zs.getD k 0 = y := ⟨_, rfl⟩
          rw [hy] at ck hy0 htk
          have hv := conv_digit y hy0
          obtain ⟨Y, hY⟩ : ∃ Y, chr1 y = Y := ⟨_, rfl⟩
          have hys : Y.size ≤ 1 := hY ▸ chr1_size y
          rw [hY] at hv
          have HNL : Hid ((T ++ Y).data.toList = S5.data.toList ++ ((zs.take (k + 1)).map fun z => UInt8.ofNat (48 + z % 10).toNat)) := Lib.hid (by
            rw [htk, ByteArray.data_append, Array.toList_append, htl.out, List.map_append, ← List.append_assoc, ← hY]
            rfl)
          have HSZ : Hid ((T ++ Y).size ≤ 27 + (k + 1)) := Lib.hid (by rw [ByteArray.size_append]; omega)
          obtain ⟨y0, y1⟩ := hy0
          clear hbel htl hzw hcc htk hy hY
          go_wp2
          go_roundw
          case rel => exact ⟨k + 1, T ++ Y, by omega, by go_num, rfl, HSZ.out, HNL, HBS.out.alloc HBS.out.size _⟩
          case measure => simp [intOf] <;> omega
        · obtain rfl : k = n := by omega
          obtain ⟨M, hM⟩ : ∃ M, zsB ((zs.take k).map fun z => UInt8.ofNat (48 + z % 10).toNat) = M := ⟨_, rfl⟩
          have hMd : Digs M := hM ▸ zsB_digs _
          have hzt : zsB T.data.toList = zsB S5.data.toList ++ M := by rw [htl.out, zsB_append, hM]
          obtain ⟨_, ep, em⟩ := HPA.out M hMd
          have e5 := (HPA.out [] (fun z h => by cases h)).1
          rw [List.append_nil] at e5
          have zp : zsB ((⟨#[43, 48, 48]⟩ : ByteArray) ++ T).data.toList = 43 :: 48 :: 48 :: (zsB S5.data.toList ++ M) := by
            rw [ByteArray.data_append, Array.toList_append, zsB_append, hzt]; rfl
          have zm : zsB ((⟨#[45]⟩ : ByteArray) ++ T).data.toList = 45 :: (zsB S5.data.toList ++ M) := by
            rw [ByteArray.data_append, Array.toList_append, zsB_append, hzt]; rfl
          rw [← zp] at ep
          rw [← zm] at em
          have hsp : ((⟨#[43, 48, 48]⟩ : ByteArray) ++ T).size ≤ 1000000 := by rw [ByteArray.size_append]; have : (⟨#[43, 48, 48]⟩ : ByteArray).size = 3 := rfl; omega
          have hsm : ((⟨#[45]⟩ : ByteArray) ++ T).size ≤ 1000000 := by rw [ByteArray.size_append]; have : (⟨#[45]⟩ : ByteArray).size = 1 := rfl; omega
          obtain ⟨cc5, ww5, hk5⟩ := str_bytes S5
          obtain ⟨ccp, wwp, hkp⟩ := str_bytes ((⟨#[43, 48, 48]⟩ : ByteArray) ++ T)
          obtain ⟨ccm, wwm, hkm⟩ := str_bytes ((⟨#[45]⟩ : ByteArray) ++ T)
          have kc5 := fun W => (hk5 W).1
          have kcp := fun W => (hkp W).1
          have kcm := fun W => (hkm W).1
          have HB5 := Lib.hid (fun W => (hk5 W).2)
          have esp : ((⟨#[43, 48, 48]⟩ : ByteArray) ++ T).size = 3 + T.size := by rw [ByteArray.size_append]; rfl
          have HBP := Lib.hid (fun W => (by have h2 := (hkp W).2; rw [esp] at h2; exact h2 : Byt (wwp W) (wwp W).heap.size (some ⟨W.heap.size, 0, none⟩) (3 + T.size) (ccp W) (zsB ((⟨#[43, 48, 48]⟩ : ByteArray) ++ T).data.toList) ∧ Below W.heap.size W (wwp W)))
          have esm : ((⟨#[45]⟩ : ByteArray) ++ T).size = 1 + T.size := by rw [ByteArray.size_append]; rfl
          have HBM := Lib.hid (fun W => (by have h2 := (hkm W).2; rw [esm] at h2; exact h2 : Byt (wwm W) (wwm W).heap.size (some ⟨W.heap.size, 0, none⟩) (1 + T.size) (ccm W) (zsB ((⟨#[45]⟩ : ByteArray) ++ T).data.toList) ∧ Below W.heap.size W (wwm W)))
          have HP5 := Lib.hid (fun A c W (h : Byt W W.heap.size A S5.size c (zsB S5.data.toList)) => (by have h2 := fxParse A S5.size c _ W h (by omega); rw [e5] at h2; exact h2 : Calls Tryd.prog 12 #[.slice A S5.size c] W fun e w' => e = .returned (tripV (X, false, 0)) ∧ Below W.heap.size W w'))
          have HPP := Lib.hid (fun A c W (h : Byt W W.heap.size A (3 + T.size) c (zsB ((⟨#[43, 48, 48]⟩ : ByteArray) ++ T).data.toList)) => (by have h2 := fxParse A (3 + T.size) c _ W h (esp ▸ hsp); rw [ep] at h2; exact h2 : Calls Tryd.prog 12 #[.slice A (3 + T.size) c] W fun e w' => e = .returned (tripV (X, false, 0)) ∧ Below W.heap.size W w'))
          have HPM := Lib.hid (fun A c W (h : Byt W W.heap.size A (1 + T.size) c (zsB ((⟨#[45]⟩ : ByteArray) ++ T).data.toList)) => (by have h2 := fxParse A (1 + T.size) c _ W h (esm ▸ hsm); rw [em] at h2; exact h2 : Calls Tryd.prog 12 #[.slice A (1 + T.size) c] W fun e w' => e = .returned (tripV (-X, false, 0)) ∧ Below W.heap.size W w'))
          clear hbel htl hM hMd hzt ep em e5 zp zm hk5 hkp hkm esp esm hsp hsm
          go_wp2_with (first
            | (go_at_call 12; (with_reducible refine (HP5.out _ _ (ww5 wr) (HB5.out wr).1).mono ?_); rintro e v1 ⟨rfl, b1⟩)
            | (go_at_call 12; (with_reducible refine (HPP.out _ _ (wwp v1) (HBP.out v1).1).mono ?_); rintro e v2 ⟨rfl, b2⟩)
            | (go_at_call 12; (with_reducible refine (HPM.out _ _ (wwm v2) (HBM.out v2).1).mono ?_); rintro e v3 ⟨rfl, b3⟩))
          go_ret
          have f0 := HBW1.out.trans (HBS.out.mono HBW1.out.size)
          have f1 := f0.trans ((HB5.out wr).2.mono f0.size)
          have f2 := f1.trans (b1.mono f1.size)
          have f3 := f2.trans ((HBP.out v1).2.mono f2.size)
          have f4 := f3.trans (b2.mono f3.size)
          have f5 := f4.trans ((HBM.out v2).2.mono f4.size)
          exact ⟨by simp, f5.trans (b3.mono f5.size)⟩
theorem cuts_walk (u p0 p1 p2 p3 p4 : Int) (A : Option Addr) (n c : Nat) (zs : List Int) (w : World) (htab : Tab w) (hu : 0 ≤ u) (hu2 : u ≤ 4294967295) (a0 : 0 ≤ p0 ∧ p0 < 256) (a1 : 0 ≤ p1 ∧ p1 < 256) (a2 : 0 ≤ p2 ∧ p2 < 256) (a3 : 0 ≤ p3 ∧ p3 < 256) (a4 : 0 ≤ p4 ∧ p4 < 256) (hz : Byt w w.heap.size A n c zs) (hn : n ≤ 9223372036854775807) :
    Calls Tryd.prog 9 #[.int .u32 u, .agg #[.int .u8 p0, .int .u8 p1, .int .u8 p2, .int .u8 p3, .int .u8 p4], .slice A n c] w fun e w' => e = .returned (.bool true) ∧ Below w.heap.size w w' := by
  by_cases h1 : n ≤ 50
  · by_cases h2 : u ≤ 2147483647
    · exact cuts_in u p0 p1 p2 p3 p4 A n c zs w htab hu h2 a0 a1 a2 a3 a4 hz h1
    · have HTB := Lib.hid htab
      have HAW := Lib.hid (fun W (hb : Below w.heap.size w W) => awake_any W (htab.below hb (Nat.le_refl _)))
      clear htab
      have h3 : 2147483647 < u := by omega
      clear hz
      go_enter Tryd.func9, Tryd.ntmps9
      go_wp2_with (first
        | (go_at_call 11; refine (HAW.out _ ((Below.refl _ w).alloc (Nat.le_refl _) _)).mono ?_; rintro e w1 ⟨rfl, q1⟩))
      go_ret
      exact ⟨rfl, ((Below.refl _ w).alloc (Nat.le_refl _) _).trans (q1.mono (by simp))⟩
  · have HTB := Lib.hid htab
    have HAW := Lib.hid (fun W (hb : Below w.heap.size w W) => awake_any W (htab.below hb (Nat.le_refl _)))
    clear htab
    have h3 : 50 < n := by omega
    clear hz
    go_enter Tryd.func9, Tryd.ntmps9
    go_wp2_with (first
      | (go_at_call 11; refine (HAW.out _ ((Below.refl _ w).alloc (Nat.le_refl _) _)).mono ?_; rintro e w1 ⟨rfl, q1⟩))
    go_ret
    exact ⟨rfl, ((Below.refl _ w).alloc (Nat.le_refl _) _).trans (q1.mono (by simp))⟩

set_option maxRecDepth 100000 in
theorem cuts_lifted (os : Os) (started : os.Started) (H : Type) (enc : TypeId × Value → H) :
    ReturnsInHanded {} Tryd.checked os 9 .any (fun w args => (Rows.fixedCutsSpec.pre enc Tryd.prog Tryd.f9 Rows.fixedCutsRow.domain false w args ∧ laidMetH Tryd.prog Rows.fixedCutsRow.laid w) ∧ sizedMet enc Tryd.prog Tryd.f9 (OpenSpec.ofChange Rows.fixedCutsSpec) false w args) (Rows.fixedCutsSpec.post enc Tryd.prog Tryd.f9 false true false false) := by
  refine returnsInHanded_of_change_and (C := Tryd.checked) (X := fun w _ => laidMetH Tryd.prog Rows.fixedCutsRow.laid w) (fun _ _ _ hh h => h.of_heap hh) own started (by kernel_rfl) Tryd.func9
    (ChangeSpec.witness_shaped (enc := enc) (C := Tryd.checked) (os := os) (X := fun w _ => laidMetH Tryd.prog Rows.fixedCutsRow.laid w) false (World.laidAll Tryd.prog os Rows.fixedCutsRow.laid) #[.int .u32 0, .agg #[.int .u8 0, .int .u8 0, .int .u8 0, .int .u8 0, .int .u8 0], .slice none 0 0] 8 (World.laidAll_os _ _ _)
      (World.shaped_of_ZipB (by kernel_rfl) (by kernel_rfl)) (by kernel_rfl) (by kernel_rfl) (by kernel_rfl)
      (by rw [MakeChecks.laidMetH_plain _ _ _ (by kernel_rfl)]; exact laidMet_laidAll _ (by kernel_rfl) (by kernel_rfl))) ?_
  intro W base args ds gs before hval0 hW hcnd _ hL _
  have htab : Tab W := tab_of_laid hL
  clear hL
  have hval : ∀ (j : Nat) t v, Tryd.f9.params[j]? = some t → args[j]? = some v → Value.okWide Tryd.prog W .any base t v := hval0
  have hW' := hW
  obtain ⟨p, q, hA0, hV, rfl, hfz, hnd⟩ := hW
  have hA : DataW.TrodAll enc Tryd.prog W 0 (fun _ => true) true Tryd.f9.params.toList args.toList ds p := hA0
  rw [Tryd.params9] at hA hval
  obtain ⟨v0, vs0, d0, ds0, p0, q0, hargs, rfl, rfl, h0, r0⟩ := trodAll_cons hA
  obtain ⟨v1, vs1, d1, ds1, p1, q1, rfl, rfl, rfl, h1, r1⟩ := trodAll_cons r0
  obtain ⟨v2, vs2, d2, ds2, p2, q2, rfl, rfl, rfl, h2, r2⟩ := trodAll_cons r1
  obtain ⟨rfl, rfl, rfl⟩ := trodAll_nil r2
  obtain rfl : args = #[v0, v1, v2] := by cases args; simp_all
  obtain ⟨rfl, rfl⟩ := trodVars_none hV
  obtain ⟨x0, rfl⟩ := okWide_int Tryd.underlying39 (hval 0 39 v0 rfl rfl)
  obtain ⟨lo0, hi0⟩ := open_int Tryd.underlying39 h0
  have e32a : IntKind.u32.min = 0 := by decide
  have e32b : IntKind.u32.max = 4294967295 := by decide
  rw [e32a] at lo0
  rw [e32b] at hi0
  have lt0 : ∀ x ∈ p0, x.block < W.heap.size := by obtain ⟨m, hm⟩ := h0; exact DataW.trod_lt m _ _ _ hm
  obtain ⟨b0, b1, b2, b3, b4, rfl, k0, k1, k2, k3, k4⟩ := open_arr5 (hval 1 40 v1 rfl rfl) h1
  have lt1 : ∀ x ∈ p1, x.block < W.heap.size := by obtain ⟨m, hm⟩ := h1; exact DataW.trod_lt m _ _ _ hm
  obtain ⟨a2, len2, cap2, rfl⟩ := okWide_slice Tryd.underlying26 (hval 2 26 v2 rfl rfl)
  obtain ⟨zs2, hz2, hcm2⟩ := open_bytes h2 (fun _ => rfl)
  have lt2 : ∀ x ∈ p2, x.block < W.heap.size := by obtain ⟨m, hm⟩ := h2; exact DataW.trod_lt m _ _ _ hm
  have hmx : maxLen = 9223372036854775807 := by decide
  clear hA0 hval0
  refine (cuts_walk x0 b0 b1 b2 b3 b4 a2 len2 cap2 zs2 W htab lo0 hi0 k0 k1 k2 k3 k4 hz2 (by have := hz2.cap; omega)).mono fun e W' ⟨he, bel⟩ => ?_
  subst he
  exact ⟨_, rfl, _, _, _, [], _, [], hW', trodAll_mk1 (shut_bool Tryd.underlying4 _), (trodAll_cons_mk (Below.trod laidOut (by kernel_rfl) (of_decide_eq_true (by kernel_rfl)) h0 bel lt0) (trodAll_cons_mk (Below.trod laidOut (by kernel_rfl) (of_decide_eq_true (by kernel_rfl)) h1 bel lt1) (trodAll_cons_mk (Below.trod laidOut (by kernel_rfl) (of_decide_eq_true (by kernel_rfl)) h2 bel lt2) trodAll_mk0))), rfl, bel.frame _, fun h => by cases h⟩

/-- FixedCuts: it answers true. -/
theorem cuts_holds : Rows.FixedCutsSaid :=
  OpenClaim.holds_of_wide 9 Tryd.f9 rfl rfl rfl rfl rfl rfl rfl ⟨rfl, rfl, rfl, rfl, rfl⟩ rfl rfl rfl rfl rfl (by kernel_rfl) Tryd.func9 (by kernel_rfl)
    (of_decide_eq_true (by kernel_rfl)) (by unfold Func.isWrapper; first | (rw [if_pos (by decide +kernel)]; kernel_rfl) | (rw [if_neg (by decide +kernel)]; exact ⟨rfl, rfl⟩))
    (fun os started H enc _ => cuts_lifted os started H enc)
/-- The card of FixedCuts: what its row lists is tied to the program's text. -/
theorem cuts_card : Rows.FixedCutsCardSaid :=
  Claim7.holds_tied_plain_at .later [] [.data, .data, .data, .data, .pinned] true Rows.fixedCutsCard.stood.harness false cuts_holds (fun _ h => by cases h) (by kernel_rfl) (fun _ h => by cases h) fixedCuts_row_tie rfl ⟨rfl, rfl⟩ (by kernel_rfl) rfl
    (fun f fn hf hfn => by
      obtain rfl : f = 9 := Option.some.inj ((show Tryd.prog.funcNamed "pressmark/pressmarklaw2.FixedCuts" = some 9 by kernel_rfl).symm.trans hf) |>.symm
      obtain rfl : fn = Tryd.f9 := (Option.some.inj (Tryd.func9.symm.trans hfn)).symm
      exact ⟨by kernel_rfl, fun j t ht => by
        rw [Tryd.params9] at ht
        have hm : t ∈ [39, 40, 26] := by simpa using Array.mem_of_getElem? ht
        have hall : ([39, 40, 26].all fun u => !Tryd.prog.wantsStandIn u) = true := by kernel_rfl
        exact (show Tryd.prog.wantsStandIn t = false by simpa using List.all_eq_true.1 hall t hm)⟩)
    (by kernel_rfl)
#print axioms cuts_card

end Go.Proofs.YtlpehpajfinjkaaDoor
