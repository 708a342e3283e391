/- LexBlanks: whatever blanks and comments stand between tokens: the tokens are the same, but for their places. No condition on the input. -/
import Derived.Test.YtpomkhcobpihmaaBla22
import Derived.Test.YtpomkhcobpihmaaBla24
namespace Go.Proofs.Ytpomkhcobpihmaa
open Go.ChangeShapes Go.WideShapes Go.ChangeAt Go.RowKit
set_option linter.unusedVariables false
set_option maxRecDepth 100000
def gpS (g : Nat) : ByteArray := if g = 0 then ⟨#[32]⟩ else if g = 1 then ⟨#[10]⟩ else if g = 2 then ⟨#[0]⟩ else if g = 3 then ⟨#[37, 99, 13]⟩ else if g = 4 then ⟨#[32, 37, 37, 10, 32]⟩ else if g = 5 then ⟨#[9, 12]⟩ else if g = 6 then ⟨#[13, 10]⟩ else ⟨#[32, 32]⟩
def wdS (j : Nat) : ByteArray := if j = 0 then ⟨#[47, 65]⟩ else if j = 1 then ⟨#[40, 120, 41]⟩ else if j = 2 then ⟨#[60, 52, 49, 62]⟩ else if j = 3 then ⟨#[91]⟩ else if j = 4 then ⟨#[93]⟩ else if j = 5 then ⟨#[60, 60]⟩ else if j = 6 then ⟨#[62, 62]⟩ else if j = 7 then ⟨#[49, 50]⟩ else if j = 8 then ⟨#[45, 46, 53]⟩ else if j = 9 then ⟨#[111, 98, 106]⟩ else ⟨#[116, 114, 117, 101]⟩
theorem gpS_z (g : Nat) : strZ (gpS g) = gpL g ∧ (gpS g).size ≤ 5 := by
  unfold gpS gpL
  repeat' split
  all_goals exact ⟨rfl, by decide⟩
theorem wdS_z (j : Nat) : strZ (wdS j) = wdL j ∧ (wdS j).size ≤ 4 := by
  unfold wdS wdL
  repeat' split
  all_goals exact ⟨rfl, by decide⟩
theorem wdS_n (j : Nat) : (wdS j).size = (wdL j).length := by rw [← (wdS_z j).1, strZ_len]
theorem wdS_l (j : Nat) : ((strOfNums (wdL j)).toList == (wdS j).toList) = true := by
  unfold wdS wdL
  repeat' split
  all_goals decide +kernel
def gx (bs : List Int) (i : Nat) : Nat := if i < bs.length then (bs.getD i 0).toNat % 8 else 0
def wx (us : List Int) (i : Nat) : Nat := (us.getD i 0).toNat % 11
def prs (us bs : List Int) : Nat → List (Nat × Nat)
  | 0 => []
  | i + 1 => prs us bs i ++ [(gx bs i, wx us i)]
theorem prs_split (us bs : List Int) : ∀ n i, i < n → ∃ ys, prs us bs n = prs us bs i ++ (gx bs i, wx us i) :: ys
  | 0, i, h => absurd h (Nat.not_lt_zero _)
  | n + 1, i, h => by
    by_cases hi : i = n
    · subst hi
      exact ⟨[], rfl⟩
    · obtain ⟨ys, e⟩ := prs_split us bs n i (by omega)
      exact ⟨ys ++ [(gx bs n, wx us n)], by rw [prs, e]; simp⟩
theorem bk_len : ∀ n us bs, (bkL (prs us bs n)).length ≤ 9 * n
  | 0, us, bs => Nat.le_refl _
  | n + 1, us, bs => by
    have h1 := bk_len n us bs
    have h2 := (gpS_z (gx bs n)).2
    have h3 := (wdS_z (wx us n)).2
    rw [← strZ_len, (gpS_z _).1] at h2
    rw [← strZ_len, (wdS_z _).1] at h3
    rw [prs, bkL_snoc]
    simp only [List.length_append]
    omega
theorem bk_st (xs ys : List (Nat × Nat)) (g j : Nat) (S : ByteArray) (hS : strZ S = bkL (xs ++ (g, j) :: ys)) : stB (strZ S) ((bkL xs).length + (gpL g).length) (wdS j) = true := by
  have hd : (strZ S).drop ((bkL xs).length + (gpL g).length) = wdL j ++ bkL ys := by
    rw [hS, bkL_app, ← List.drop_drop, List.drop_left, bkL, List.drop_left]
  have hl := congrArg List.length hS
  rw [bkL_app, bkL] at hl
  simp only [List.length_append] at hl
  rw [stB_yes _ _ _ (by rw [hl, wdS_n]; omega), hd, wdS_n, List.take_left]
  exact wdS_l j
/-- The two tables. -/
structure TB (w W : World) (ga gb : Nat) : Prop where
  low : Below w.heap.size w W
  ra : W.heap[ga]? = some (.cells #[.string ⟨#[47, 65]⟩, .string ⟨#[40, 120, 41]⟩, .string ⟨#[60, 52, 49, 62]⟩, .string ⟨#[91]⟩, .string ⟨#[93]⟩, .string ⟨#[60, 60]⟩, .string ⟨#[62, 62]⟩, .string ⟨#[49, 50]⟩, .string ⟨#[45, 46, 53]⟩, .string ⟨#[111, 98, 106]⟩, .string ⟨#[116, 114, 117, 101]⟩] 9 (0, 0))
  rb : W.heap[gb]? = some (.cells #[.string ⟨#[32]⟩, .string ⟨#[10]⟩, .string ⟨#[0]⟩, .string ⟨#[37, 99, 13]⟩, .string ⟨#[32, 37, 37, 10, 32]⟩, .string ⟨#[9, 12]⟩, .string ⟨#[13, 10]⟩, .string ⟨#[32, 32]⟩] 9 (0, 0))
  ge : w.heap.size ≤ ga
  ab : ga < gb
  lt : gb < W.heap.size
theorem TB.step {w W W' : World} {ga gb : Nat} (h : TB w W ga gb) (hb : Below (gb + 1) W W') : TB w W' ga gb :=
  ⟨h.low.trans (hb.mono (by have := h.ge; have := h.ab; omega)), (hb.block _ (by have := h.ab; omega)).trans h.ra, (hb.block _ (by omega)).trans h.rb, h.ge, h.ab, Nat.lt_of_lt_of_le h.lt hb.size⟩
theorem TB.low_ {w W W' : World} {ga gb : Nat} (h : TB w W ga gb) (hb : Below W.heap.size W W') : TB w W' ga gb := h.step (hb.mono h.lt)
theorem TB.wd {w W : World} {ga gb : Nat} (h : TB w W ga gb) (j : Nat) (hj : j < 11) : W.cell? ⟨ga, j, none⟩ = some (.string (wdS j)) := by
  have hj : j = 0 ∨ j = 1 ∨ j = 2 ∨ j = 3 ∨ j = 4 ∨ j = 5 ∨ j = 6 ∨ j = 7 ∨ j = 8 ∨ j = 9 ∨ j = 10 := by omega
  rcases hj with rfl | rfl | rfl | rfl | rfl | rfl | rfl | rfl | rfl | rfl | rfl <;> exact cell_of_row _ _ _ _ _ (0, 0) h.ra
theorem TB.gp {w W : World} {ga gb : Nat} (h : TB w W ga gb) (j : Nat) (hj : j < 8) : W.cell? ⟨gb, j, none⟩ = some (.string (gpS j)) := by
  have hj : j = 0 ∨ j = 1 ∨ j = 2 ∨ j = 3 ∨ j = 4 ∨ j = 5 ∨ j = 6 ∨ j = 7 := by omega
  rcases hj with rfl | rfl | rfl | rfl | rfl | rfl | rfl | rfl <;> exact cell_of_row _ _ _ _ _ (0, 0) h.rb
def RSB (W : World) (t1 t2 ga J b1 oj : Nat) (kk P v U : Int) (x y : Value) (WS : ByteArray) : Prop :=
  W.cell? ⟨t1, 0, none⟩ = some (.int .i64 kk) ∧ W.cell? ⟨t1, 1, none⟩ = some (.int .i64 P) ∧ W.cell? ⟨t1, 2, none⟩ = some (.int .i64 v) ∧ W.cell? ⟨t1, 3, none⟩ = some x ∧
  W.cell? ⟨t2, 0, none⟩ = some (.int .i64 kk) ∧ W.cell? ⟨t2, 2, none⟩ = some (.int .i64 v) ∧ W.cell? ⟨t2, 3, none⟩ = some y ∧ W.cell? ⟨b1, oj, none⟩ = some (.int .u8 U) ∧ W.cell? ⟨ga, J, none⟩ = some (.string WS)
theorem blanks_out1 (A : Option Addr) (n c : Nat) (B : Option Addr) (k d : Nat) (w : World) (hn : n ≤ 9223372036854775807) (h : 60 < n) :
    Calls Try.prog 7 #[.slice A n c, .slice B k d] w fun e w' => e = .returned (.bool true) ∧ Below w.heap.size w w' := by
  have HAW := Lib.hid (awake_any w)
  have g1 : (n : Int) > 60 := by omega
  go_enter Try.func7, Try.ntmps7
  go_wp2_with (first
    | (go_at_call 35; refine HAW.out.mono ?_; (rintro e w1 ⟨rfl, hb1⟩)))
  go_ret
  exact ⟨rfl, hb1⟩
theorem blanks_out2 (A : Option Addr) (n c : Nat) (B : Option Addr) (k d : Nat) (w : World) (hk : k ≤ 9223372036854775807) (hn : n ≤ 60) (h : 60 < k) :
    Calls Try.prog 7 #[.slice A n c, .slice B k d] w fun e w' => e = .returned (.bool true) ∧ Below w.heap.size w w' := by
  have HAW := Lib.hid (awake_any w)
  have g1 : ¬ (n : Int) > 60 := by omega
  have g2 : (k : Int) > 60 := by omega
  go_enter Try.func7, Try.ntmps7
  go_wp2_with (first
    | (go_at_call 35; refine HAW.out.mono ?_; (rintro e w1 ⟨rfl, hb1⟩)))
  go_ret
  exact ⟨rfl, hb1⟩
theorem getD_memB (us : List Int) (i : Nat) (h : i < us.length) : us.getD i 0 ∈ us := by
  simp [List.getD, h]
set_option maxHeartbeats 8000000 in
theorem blanks_main (A : Option Addr) (n c : Nat) (us : List Int) (B : Option Addr) (k d : Nat) (bs : List Int) (w : World) (hz : Byt w w.heap.size A n c us) (hy : Byt w w.heap.size B k d bs) (hn : n ≤ 60) (hk : k ≤ 60) :
    Calls Try.prog 7 #[.slice A n c, .slice B k d] w fun e w' => e = .returned (.bool true) ∧ Below w.heap.size w w' := by
  have HAW := Lib.hid (awake_any w)
  have HZ := Lib.hid hz
  have HY := Lib.hid hy
  have HNN := Lib.hid hn
  have g1 : ¬ (n : Int) > 60 := by omega
  have g2 : ¬ (k : Int) > 60 := by omega
  clear hz hy
  go_enter Try.func7, Try.ntmps7
  go_upto_region 6 with (first
    | (go_at_call 35; refine HAW.out.mono ?_; (rintro e w1 ⟨rfl, hb1⟩); have HB1 := Lib.hid hb1; clear hb1))
  have hb2 := (Below.refl w1.heap.size w1).alloc (Nat.le_refl _) (.cells #[.string ⟨#[47, 65]⟩, .string ⟨#[40, 120, 41]⟩, .string ⟨#[60, 52, 49, 62]⟩, .string ⟨#[91]⟩, .string ⟨#[93]⟩, .string ⟨#[60, 60]⟩, .string ⟨#[62, 62]⟩, .string ⟨#[49, 50]⟩, .string ⟨#[45, 46, 53]⟩, .string ⟨#[111, 98, 106]⟩, .string ⟨#[116, 114, 117, 101]⟩] 9)
  have hn2 := heap_alloc_new w1 (.cells #[.string ⟨#[47, 65]⟩, .string ⟨#[40, 120, 41]⟩, .string ⟨#[60, 52, 49, 62]⟩, .string ⟨#[91]⟩, .string ⟨#[93]⟩, .string ⟨#[60, 60]⟩, .string ⟨#[62, 62]⟩, .string ⟨#[49, 50]⟩, .string ⟨#[45, 46, 53]⟩, .string ⟨#[111, 98, 106]⟩, .string ⟨#[116, 114, 117, 101]⟩] 9)
  obtain ⟨w2, hw2⟩ : ∃ w2, w1.alloc (.cells #[.string ⟨#[47, 65]⟩, .string ⟨#[40, 120, 41]⟩, .string ⟨#[60, 52, 49, 62]⟩, .string ⟨#[91]⟩, .string ⟨#[93]⟩, .string ⟨#[60, 60]⟩, .string ⟨#[62, 62]⟩, .string ⟨#[49, 50]⟩, .string ⟨#[45, 46, 53]⟩, .string ⟨#[111, 98, 106]⟩, .string ⟨#[116, 114, 117, 101]⟩] 9) = w2 := ⟨_, rfl⟩
  have hs2 : w2.heap.size = w1.heap.size + 1 := by rw [← hw2]; simp
  rw [hw2] at hb2 hn2
  rw [hw2]
  go_upto_region 7 with fail
  have hb3 := (Below.refl w2.heap.size w2).alloc (Nat.le_refl _) (.cells #[.string ⟨#[32]⟩, .string ⟨#[10]⟩, .string ⟨#[0]⟩, .string ⟨#[37, 99, 13]⟩, .string ⟨#[32, 37, 37, 10, 32]⟩, .string ⟨#[9, 12]⟩, .string ⟨#[13, 10]⟩, .string ⟨#[32, 32]⟩] 9)
  have hn3 := heap_alloc_new w2 (.cells #[.string ⟨#[32]⟩, .string ⟨#[10]⟩, .string ⟨#[0]⟩, .string ⟨#[37, 99, 13]⟩, .string ⟨#[32, 37, 37, 10, 32]⟩, .string ⟨#[9, 12]⟩, .string ⟨#[13, 10]⟩, .string ⟨#[32, 32]⟩] 9)
  obtain ⟨w3, hw3⟩ : ∃ w3, w2.alloc (.cells #[.string ⟨#[32]⟩, .string ⟨#[10]⟩, .string ⟨#[0]⟩, .string ⟨#[37, 99, 13]⟩, .string ⟨#[32, 37, 37, 10, 32]⟩, .string ⟨#[9, 12]⟩, .string ⟨#[13, 10]⟩, .string ⟨#[32, 32]⟩] 9) = w3 := ⟨_, rfl⟩
  have hs3 : w3.heap.size = w2.heap.size + 1 := by rw [← hw3]; simp
  rw [hw3] at hb3 hn3
  rw [hw3]
  obtain ⟨ga, hga⟩ : ∃ ga, w1.heap.size = ga := ⟨_, rfl⟩
  obtain ⟨gb, hgb⟩ : ∃ gb, w2.heap.size = gb := ⟨_, rfl⟩
  have HTB : Hid (TB w w3 ga gb) := Lib.hid ⟨(HB1.out.trans (hb2.mono HB1.out.size)).trans (hb3.mono (by have := HB1.out.size; omega)), by rw [← hga]; exact (hb3.block _ (by omega)).trans hn2, by rw [← hgb]; exact hn3, by rw [← hga]; exact HB1.out.size, by omega, by omega⟩
  rw [hga, show ga + 1 = gb by omega]
  clear hb2 hn2 hw2 hs2 hb3 hn3 hw3 hs3 hga hgb g1 g2 HB1 HAW
  go_upto_region 9 with fail
  go_loopw [7, 8] (fun s7 s8 wr => ∃ (i : Nat) (S : ByteArray), s7 = .string S ∧ s8 = .int .i64 i ∧ i ≤ n ∧ Hid (strZ S = bkL (prs us bs i)) ∧ wr = w3) (fun _ s8 _ => n - (intOf s8).toNat)
  case atStart => exact ⟨0, ⟨#[]⟩, rfl, rfl, Nat.zero_le _, Lib.hid rfl, rfl⟩
  case round =>
    obtain ⟨i, S, rfl, rfl, hin, HS, rfl⟩ := hrel
    have hsz : S.size ≤ 540 := by
      have h1 := strZ_len S
      have h2 := bk_len i us bs
      rw [HS.out] at h1
      omega
    by_cases hi : i < n
    · have gi : (i : Int) < n := by omega
      have HIN := Lib.hid hi
      obtain ⟨b, o, rfl, hlt, hcl⟩ := HZ.out.cell (by omega)
      have hrg := HZ.out.rng _ (getD_memB us i (by rw [HZ.out.len]; exact hi))
      obtain ⟨U, hU⟩ : ∃ U : Nat, us.getD i 0 = (U : Int) := ⟨(us.getD i 0).toNat, by omega⟩
      have hUb : U < 256 := by rw [hU] at hrg; omega
      have hc1 : wr.cell? ⟨b, o + i, none⟩ = some (.int .u8 (U : Int)) := (HTB.out.low.cell (p := ⟨b, o + i, none⟩) hlt).trans (by rw [hcl i hi, hU])
      obtain ⟨J, hJ⟩ : ∃ J, U % 11 = J := ⟨_, rfl⟩
      have hJ11 : J < 11 := by omega
      have hwx : wx us i = J := by unfold wx; rw [hU]; omega
      have hr1 : IntKind.i64.wrap (U : Int) = (U : Int) := IntWalk.i64_in _ (by omega)
      have hr2 : Int.tmod (U : Int) 11 = (J : Int) := by rw [Int.tmod_eq_emod_of_nonneg (by omega)]; omega
      have hxe : (U : Int) % 11 = (J : Int) := by omega
      have hc2 := HTB.out.wd J hJ11
      obtain ⟨WS, hWS⟩ : ∃ WS, wdS J = WS := ⟨_, rfl⟩
      rw [hWS] at hc2
      have sW : WS.size ≤ 4 := by rw [← hWS]; exact (wdS_z J).2
      have HWZ : Hid (strZ WS = wdL (wx us i)) := Lib.hid (by rw [hwx, ← hWS]; exact (wdS_z J).1)
      clear hcl hrg hU hlt hJ hWS hwx
      by_cases hk2 : i < k
      · have gk : (i : Int) < k := by omega
        obtain ⟨b2, o2, rfl, hlt2, hcl2⟩ := HY.out.cell (by omega)
        have hrg2 := HY.out.rng _ (getD_memB bs i (by rw [HY.out.len]; exact hk2))
        obtain ⟨X, hX⟩ : ∃ X : Nat, bs.getD i 0 = (X : Int) := ⟨(bs.getD i 0).toNat, by omega⟩
        have hXb : X < 256 := by rw [hX] at hrg2; omega
        have hc3 : wr.cell? ⟨b2, o2 + i, none⟩ = some (.int .u8 (X : Int)) := (HTB.out.low.cell (p := ⟨b2, o2 + i, none⟩) hlt2).trans (by rw [hcl2 i hk2, hX])
        obtain ⟨G, hG⟩ : ∃ G, X % 8 = G := ⟨_, rfl⟩
        have hG8 : G < 8 := by omega
        have hgx : gx bs i = G := by unfold gx; rw [if_pos (by rw [HY.out.len]; exact hk2), hX]; omega
        have hr3 : Int.tmod (X : Int) 8 = (G : Int) := by rw [Int.tmod_eq_emod_of_nonneg (by omega)]; omega
        have hr4 : IntKind.u8.wrap (G : Int) = (G : Int) := by rw [IntKind.wrap_u8]; omega
        have hxg : (X : Int) % 8 = (G : Int) := by omega
        have hc4 := HTB.out.gp G hG8
        obtain ⟨GS, hGS⟩ : ∃ GS, gpS G = GS := ⟨_, rfl⟩
        rw [hGS] at hc4
        have sG : GS.size ≤ 5 := by rw [← hGS]; exact (gpS_z G).2
        have HGZ : Hid (strZ GS = gpL (gx bs i)) := Lib.hid (by rw [hgx, ← hGS]; exact (gpS_z G).1)
        clear hcl2 hrg2 hX hlt2 hG hGS hgx hk2
        go_wp2_with fail
        go_roundw
        case rel => exact ⟨i + 1, _, rfl, by go_num, by have := HIN.out; omega, Lib.hid (by
          rw [prs, bkL_snoc]
          simp only [strZ_app, HS.out, HGZ.out, HWZ.out, List.append_assoc]), by trivial⟩
        case measure => have := HIN.out; simp [intOf]; omega
      · have gk : ¬ (i : Int) < k := by omega
        have hgx : gx bs i = 0 := by unfold gx; rw [if_neg (by rw [HY.out.len]; exact hk2)]
        have HGZ : Hid (strZ ⟨#[32]⟩ = gpL (gx bs i)) := Lib.hid (by rw [hgx]; rfl)
        clear hgx hk2
        go_wp2_with fail
        go_roundw
        case rel => exact ⟨i + 1, _, rfl, by go_num, by have := HIN.out; omega, Lib.hid (by
          rw [prs, bkL_snoc]
          simp only [strZ_app, HS.out, HGZ.out, HWZ.out, List.append_assoc]), by trivial⟩
        case measure => have := HIN.out; simp [intOf]; omega
    · obtain rfl : i = n := by omega
      have hZ : strZ (S ++ ⟨#[10]⟩) = bkL (prs us bs i) ++ [10] := by rw [strZ_app, HS.out]; rfl
      have hcz := conv_txt (S ++ ⟨#[10]⟩) wr
      have hby := strZ_byt wr (S ++ ⟨#[10]⟩)
      have hbl := strZ_below wr (S ++ ⟨#[10]⟩)
      obtain ⟨w5, hw5⟩ : ∃ w5, Lib.bytesWorld wr 5 (S ++ ⟨#[10]⟩) = w5 := ⟨_, rfl⟩
      have hs5 : w5.heap.size = wr.heap.size + 1 := by rw [← hw5, Lib.bytesWorld_size]
      rw [hw5] at hby hbl hcz
      obtain ⟨cz, hcc⟩ : ∃ cz, grownCap wr (S ++ ⟨#[10]⟩).size 0 5 = cz := ⟨_, rfl⟩
      rw [hcc] at hby hcz
      rw [← hs5] at hby
      have hM8 : (S ++ ⟨#[10]⟩).size ≤ 541 := by rw [ByteArray.size_append]; have : (⟨#[10]⟩ : ByteArray).size = 1 := rfl; omega
      obtain ⟨M, hM⟩ : ∃ M, (S ++ ⟨#[10]⟩).size = M := ⟨_, rfl⟩
      rw [hM] at hby hcz hM8
      obtain ⟨ZS, hZS⟩ : ∃ ZS, strZ (S ++ ⟨#[10]⟩) = ZS := ⟨_, rfl⟩
      rw [hZS] at hby hZ
      have HZS := Lib.hid hZ
      have HM8 := Lib.hid hM8
      have HT5 := Lib.hid (HTB.out.low_ hbl)
      have HNEW := Lib.hid (ls_new w w5 _ M cz ZS hby HT5.out.low)
      obtain ⟨AZ, hAZ⟩ : ∃ AZ : Option Addr, some ⟨wr.heap.size, 0, none⟩ = AZ := ⟨_, rfl⟩
      rw [hAZ] at HNEW hcz
      have HSL := Lib.hid (show S.size = (bkL (prs us bs i)).length by rw [← strZ_len, HS.out])
      clear hZ hby hbl hw5 hs5 hcc hM8 hM hZS hAZ HTB
      go_upto_region 16 with (first
        | (go_at_call 36; refine HNEW.out.mono ?_; (rintro r w6 ⟨rfl, hl6, hs6, hb6⟩); have HL6 := Lib.hid hl6; have HT6 := Lib.hid (HT5.out.low_ hb6); clear hl6 hs6 hb6))
      obtain ⟨h, hh⟩ : ∃ h, w5.heap.size + 1 = h := ⟨_, rfl⟩
      obtain ⟨g, hg⟩ : ∃ g, w5.heap.size = g := ⟨_, rfl⟩
      have HGB : Hid (gb < g) := Lib.hid (by rw [← hg]; exact HT5.out.lt)
      rw [hh, hg] at HL6
      rw [hh]
      clear hh hg HNEW HT5 hcz
      go_upto_region 17 with fail
      go_loopw [11] (fun s11 wr => ∃ j : Nat, s11 = .int .i64 j ∧ j ≤ i ∧ Hid (LS w wr h g AZ M cz (bkL (prs us bs j)).length ZS) ∧ Hid (TB w wr ga gb)) (fun s11 _ => i - (intOf s11).toNat)
      case atStart => exact ⟨0, rfl, Nat.zero_le _, HL6, HT6⟩
      case round =>
        obtain ⟨j, rfl, hj, HL, HT⟩ := hrel
        have hmm : M ≤ 541 := HM8.out
        by_cases hji : j < i
        · have gj : (j : Int) < i := by omega
          have HJI := Lib.hid hji
          obtain ⟨ys, hsp⟩ := prs_split us bs i j hji
          have hw11 : wx us j < 11 := by unfold wx; omega
          obtain ⟨hB, hT, hQ, -⟩ := bk_at (prs us bs j) ys (gx bs j, wx us j) hw11 ZS (by rw [HZS.out, hsp])
          have hst := bk_st (prs us bs j) ys (gx bs j) (wx us j) S (by rw [HS.out, hsp])
          obtain ⟨tq, te⟩ := tkJ_q (wx us j)
          obtain ⟨hB2, hT2⟩ := wd_tok (wx us j) hw11 [] (.inl rfl)
          rw [List.append_nil] at hB2 hT2
          obtain ⟨⟨e, kk, v, b, q⟩, hK⟩ : ∃ t, tkJ (wx us j) = t := ⟨_, rfl⟩
          rw [hK] at hT tq te hT2
          dsimp only at tq te hB hT hQ
          subst te
          obtain ⟨P, hP⟩ : ∃ P, (bkL (prs us bs j)).length + (gpL (gx bs j)).length = P := ⟨_, rfl⟩
          have hQ2 : P + q = (bkL (prs us bs (j + 1))).length := by rw [tq, ← hP]; exact hQ
          rw [hP] at hB hT hst
          have hT' : tokT ZS (bkL (prs us bs j)).length = ⟨0, kk, v, b, (bkL (prs us bs (j + 1))).length⟩ := by rw [hT, ← hQ2]; rfl
          have HT1 := Lib.hid (ls_tok (by omega) HL.out hT' hB)
          obtain ⟨b1, o1, rfl, hlt, hcl⟩ := HZ.out.cell (by omega)
          have hrg := HZ.out.rng _ (getD_memB us j (by rw [HZ.out.len]; exact hji))
          obtain ⟨U, hU⟩ : ∃ U : Nat, us.getD j 0 = (U : Int) := ⟨(us.getD j 0).toNat, by omega⟩
          have hUb : U < 256 := by rw [hU] at hrg; omega
          have HCE : Hid (∀ W, Below w.heap.size w W → W.cell? ⟨b1, o1 + j, none⟩ = some (.int .u8 (U : Int))) := Lib.hid (fun W hW => (hW.cell (p := ⟨b1, o1 + j, none⟩) hlt).trans (by rw [hcl j hji, hU]))
          have hwx : wx us j = U % 11 := by unfold wx; rw [hU]; omega
          obtain ⟨J, hJ⟩ : ∃ J, U % 11 = J := ⟨_, rfl⟩
          rw [hJ] at hwx
          have hJ11 : J < 11 := by omega
          have hr1 : IntKind.i64.wrap (U : Int) = (U : Int) := IntWalk.i64_in _ (by omega)
          have hr2 : Int.tmod (U : Int) 11 = (J : Int) := by rw [Int.tmod_eq_emod_of_nonneg (by omega)]; omega
          have hxe : (U : Int) % 11 = (J : Int) := by omega
          rw [hwx] at hst hB2 hT2
          have hwz := (wdS_z J).1
          have hws := (wdS_z J).2
          have htw := fun W (x : TB w W ga gb) => x.wd J hJ11
          obtain ⟨WS, hWS⟩ : ∃ WS, wdS J = WS := ⟨_, rfl⟩
          simp only [hWS] at htw
          rw [hWS] at hst hwz hws
          have HTW := Lib.hid htw
          have HST := Lib.hid hst
          have HWS := Lib.hid hws
          have HLB := Lib.hid (show b.length ≤ 4 by have hh : q = _ := tq; have := congrArg Tk.b hK; dsimp only at this; rw [← this]; unfold tkJ; (repeat' split) <;> simp)
          clear hsp hw11 hB hT hQ hst tq hK hP hQ2 hT' hcl hrg hU hlt hwx hJ hWS htw
          have k0 := HL.out.lx.k0
          go_upto_region 20 with (first
            | (go_at_call 37; refine HT1.out.mono ?_; (rintro r w7 ⟨A7, m7, c7, rfl, hl7, ho7, hy7, hf7⟩); (try dsimp only at hl7 hy7); have HL7 := Lib.hid hl7; have HO7 := Lib.hid ho7; have HY7 := Lib.hid hy7; clear hl7 ho7 hy7 hf7))
          clear k0
          have hb8 := (Below.refl w7.heap.size w7).alloc (Nat.le_refl _) (.cells #[.int .i64 kk, .int .i64 (P : Int), .int .i64 v, .slice A7 m7 c7] 56)
          have hx8 := Bx.new w7 56 (.int .i64 kk) (.int .i64 (P : Int)) (.int .i64 v) (.slice A7 m7 c7)
          obtain ⟨w8, hw8⟩ : ∃ w8, w7.alloc (.cells #[.int .i64 kk, .int .i64 (P : Int), .int .i64 v, .slice A7 m7 c7] 56) = w8 := ⟨_, rfl⟩
          rw [hw8] at hb8 hx8
          rw [hw8]
          have HL8 := Lib.hid (HL7.out.low hb8)
          have HT8 := Lib.hid ((HT.out.step (HO7.out.belowB HGB.out (Nat.le_of_lt HL.out.lx.cu.lt))).low_ hb8)
          have HY8 := Lib.hid ((HY7.out.below hb8 (Nat.le_refl _)).more hb8.size)
          have HX8 := Lib.hid hx8
          obtain ⟨t1, ht1⟩ : ∃ t1, w7.heap.size = t1 := ⟨_, rfl⟩
          rw [ht1] at HX8
          (try rw [ht1])
          have HT1L := Lib.hid HX8.out.lt
          have hc1 := HCE.out w8 HT8.out.low
          have hc2 := HTW.out w8 HT8.out
          have hcz := conv_txt WS w8
          have hby := strZ_byt w8 WS
          have hbl := strZ_below w8 WS
          obtain ⟨w9, hw9⟩ : ∃ w9, Lib.bytesWorld w8 5 WS = w9 := ⟨_, rfl⟩
          have hs9 : w9.heap.size = w8.heap.size + 1 := by rw [← hw9, Lib.bytesWorld_size]
          rw [hw9] at hby hbl hcz
          obtain ⟨cy, hcc⟩ : ∃ cy, grownCap w8 WS.size 0 5 = cy := ⟨_, rfl⟩
          rw [hcc] at hby hcz
          rw [← hs9, hwz] at hby
          have HNW2 := Lib.hid (ls_new w w9 _ WS.size cy (wdL J) hby (HT8.out.low.trans (hbl.mono HT8.out.low.size)))
          have HT2 := Lib.hid (fun W h g A c (x : LS w W h g A WS.size c 0 (wdL J)) => ls_tok (by omega) x hT2 hB2)
          have HB9 := Lib.hid hbl
          clear hb8 hx8 hw8 ht1 hby hbl hw9 hs9 hcc HL7 HY7 HO7 HL HT HT1 hT2 hB2 hwz
          go_upto_region 21 with (first
            | (go_at_call 36; refine HNW2.out.mono ?_; (rintro r wA ⟨rfl, hlA, hsA, hbA⟩); have HLA := Lib.hid hlA; have HBA := Lib.hid hbA; have HSA := Lib.hid hsA; have kA := hlA.lx.k0; clear hlA hbA hsA)
            | (go_at_call 37; refine (HT2.out _ _ _ _ _ HLA.out).mono ?_; (rintro r wB ⟨AB, mB, cB, rfl, hlB, hoB, hyB, hfB⟩); (try dsimp only at hlB hyB); have HLB2 := Lib.hid hlB; have HOB := Lib.hid hoB; have HYB := Lib.hid hyB; clear hlB hoB hyB hfB))
          have hbC := (Below.refl wB.heap.size wB).alloc (Nat.le_refl _) (.cells #[.int .i64 kk, .int .i64 0, .int .i64 v, .slice AB mB cB] 56)
          have hxC := Bx.new wB 56 (.int .i64 kk) (.int .i64 0) (.int .i64 v) (.slice AB mB cB)
          obtain ⟨wC, hwC⟩ : ∃ wC, wB.alloc (.cells #[.int .i64 kk, .int .i64 0, .int .i64 v, .slice AB mB cB] 56) = wC := ⟨_, rfl⟩
          rw [hwC] at hbC hxC
          rw [hwC]
          have hAB := HOB.out.belowB (B := w8.heap.size) HB9.out.size (by have := HSA.out; omega)
          have hz1 := HB9.out.size
          have hz2 := HBA.out.size
          have hz3 := hAB.size
          have h8C := ((HB9.out.trans (HBA.out.mono HB9.out.size)).trans hAB).trans (hbC.mono (by omega))
          have HLC := Lib.hid (HL8.out.low h8C)
          have HTC := Lib.hid (HT8.out.low_ h8C)
          have HY1 := Lib.hid ((HY8.out.below h8C (Nat.le_refl _)).more h8C.size)
          have HY2 := Lib.hid ((HYB.out.below hbC (Nat.le_refl _)).more hbC.size)
          have HX1 := Lib.hid (HX8.out.below h8C HT1L.out)
          obtain ⟨t2, ht2⟩ : ∃ t2, wB.heap.size = t2 := ⟨_, rfl⟩
          rw [ht2] at hxC
          rw [ht2]
          have HX2 := Lib.hid hxC
          obtain rfl : m7 = mB := HY1.out.len.symm.trans HY2.out.len
          have hm7 : m7 ≤ 4 := by rw [← HY1.out.len]; exact HLB.out
          have hS : ∀ W, Below wC.heap.size wC W → RSB W t1 t2 ga J b1 (o1 + j) kk (P : Int) v (U : Int) (.slice A7 m7 c7) (.slice AB m7 cB) WS := fun W hW =>
            ⟨(HX1.out.below hW HX1.out.lt).c0, (HX1.out.below hW HX1.out.lt).c1, (HX1.out.below hW HX1.out.lt).c2, (HX1.out.below hW HX1.out.lt).c3, (HX2.out.below hW HX2.out.lt).c0, (HX2.out.below hW HX2.out.lt).c2, (HX2.out.below hW HX2.out.lt).c3,
              HCE.out W (HTC.out.low.trans (hW.mono HTC.out.low.size)), HTW.out W (HTC.out.low_ hW)⟩
          have HSW := Lib.hid hS
          have hdr := (Below.refl wC.heap.size wC).drew
          have HSM := Lib.hid (refSame_yes A7 AB m7 c7 _ cB _ b wC.drew (HY1.out.below hdr (Nat.le_refl _)) (HY2.out.below hdr (Nat.le_refl _)) (by omega))
          have gJ : (J : Int) < 11 := by omega
          have hkk : (kk != kk) = false := bne_self_eq_false kk
          have hvv : (v != v) = false := bne_self_eq_false v
          clear hbC hwC hAB hz1 hz2 hz3 h8C ht2 hxC hS hc1 hc2 hcz kA HL8 HT8 HY8 HX8 HYB HOB HBA HB9 HSA HLA HLB2 HNW2 HT2 HX1 HX2 HY1 HY2
          refine wp_region_heldR (fun W => RSB W t1 t2 ga J b1 (o1 + j) kk (P : Int) v (U : Int) (.slice A7 m7 c7) (.slice AB m7 cB) WS) 1000 (by kernel_rfl) (HSW.out _ hdr) (fun hHeld => ?_)
          refine wpAnyR_take 0 rfl (by kernel_rfl) (by kernel_rfl) (by kernel_rfl) (by kernel_rfl) (fun _ _ _ h => h) (by rfl) (v := ?_) ?_ (by assumption) ?_
          rotate_left
          focus
            intro wS hSw
            obtain ⟨s0, s1, s2, s3, s4, s5, s6, s7, s8⟩ := hSw
            go_simp
            (try simp only [s0, s1, s2, s3, s4, s5, s6, s7, s8])
            try with_reducible rfl
          intro hHeld
          try simp only [Act.put, List.setIfInBounds_toArray, List.set_cons_zero, List.set_cons_succ]
          refine wpAnyR_take 1 rfl (by kernel_rfl) (by kernel_rfl) (by kernel_rfl) (by kernel_rfl) (fun _ _ _ h => h) (by rfl) (v := ?_) ?_ (by assumption) ?_
          rotate_left
          focus
            intro wS hSw
            obtain ⟨s0, s1, s2, s3, s4, s5, s6, s7, s8⟩ := hSw
            go_simp
            (try simp only [s0, s1, s2, s3, s4, s5, s6, s7, s8])
            try with_reducible rfl
          intro hHeld
          try simp only [Act.put, List.setIfInBounds_toArray, List.set_cons_zero, List.set_cons_succ]
          refine wpAnyR_take 2 rfl (by kernel_rfl) (by kernel_rfl) (by kernel_rfl) (by kernel_rfl) (fun _ _ _ h => h) (by rfl) (v := ?_) ?_ (by assumption) ?_
          rotate_left
          focus
            intro wS hSw
            obtain ⟨s0, s1, s2, s3, s4, s5, s6, s7, s8⟩ := hSw
            go_simp
            (try simp only [s0, s1, s2, s3, s4, s5, s6, s7, s8])
            try with_reducible rfl
          intro hHeld
          try simp only [Act.put, List.setIfInBounds_toArray, List.set_cons_zero, List.set_cons_succ]
          refine wpAnyR_take 3 rfl (by kernel_rfl) (by kernel_rfl) (by kernel_rfl) (by kernel_rfl) (fun _ _ _ h => h) (by rfl) (v := ?_) ?_ (by assumption) ?_
          rotate_left
          focus
            intro wS hSw
            obtain ⟨s0, s1, s2, s3, s4, s5, s6, s7, s8⟩ := hSw
            go_simp
            (try simp only [s0, s1, s2, s3, s4, s5, s6, s7, s8])
            try with_reducible rfl
          intro hHeld
          try simp only [Act.put, List.setIfInBounds_toArray, List.set_cons_zero, List.set_cons_succ]
          refine wpAnyR_take 4 rfl (by kernel_rfl) (by kernel_rfl) (by kernel_rfl) (by kernel_rfl) (fun _ _ _ h => h) (by rfl) (v := ?_) ?_ (by assumption) ?_
          rotate_left
          focus
            intro wS hSw
            obtain ⟨s0, s1, s2, s3, s4, s5, s6, s7, s8⟩ := hSw
            go_simp
            (try simp only [s0, s1, s2, s3, s4, s5, s6, s7, s8])
            try with_reducible rfl
          intro hHeld
          try simp only [Act.put, List.setIfInBounds_toArray, List.set_cons_zero, List.set_cons_succ]
          refine wpAnyR_take 5 rfl (by kernel_rfl) (by kernel_rfl) (by kernel_rfl) (by kernel_rfl) (fun _ _ _ h => h) (by rfl) (v := ?_) ?_ (by assumption) ?_
          rotate_left
          focus
            intro wS hSw
            obtain ⟨s0, s1, s2, s3, s4, s5, s6, s7, s8⟩ := hSw
            go_simp
            (try simp only [s0, s1, s2, s3, s4, s5, s6, s7, s8])
            try with_reducible rfl
          intro hHeld
          try simp only [Act.put, List.setIfInBounds_toArray, List.set_cons_zero, List.set_cons_succ]
          refine wpAnyR_take 6 rfl (by kernel_rfl) (by kernel_rfl) (by kernel_rfl) (by kernel_rfl) (fun _ _ _ h => h) (by rfl) (v := ?_) ?_ (by assumption) ?_
          rotate_left
          focus
            intro wS hSw
            obtain ⟨s0, s1, s2, s3, s4, s5, s6, s7, s8⟩ := hSw
            go_simp
            (try simp only [s0, s1, s2, s3, s4, s5, s6, s7, s8])
            try with_reducible rfl
          intro hHeld
          try simp only [Act.put, List.setIfInBounds_toArray, List.set_cons_zero, List.set_cons_succ]
          refine wpAnyR_take 7 rfl (by kernel_rfl) (by kernel_rfl) (by kernel_rfl) (by kernel_rfl) (fun _ _ _ h => h) (by rfl) (v := ?_) ?_ (by assumption) ?_
          rotate_left
          focus
            intro wS hSw
            obtain ⟨s0, s1, s2, s3, s4, s5, s6, s7, s8⟩ := hSw
            go_simp
            (try simp only [s0, s1, s2, s3, s4, s5, s6, s7, s8])
            try with_reducible rfl
          intro hHeld
          try simp only [Act.put, List.setIfInBounds_toArray, List.set_cons_zero, List.set_cons_succ]
          refine wpAnyR_take 8 rfl (by kernel_rfl) (by kernel_rfl) (by kernel_rfl) (by kernel_rfl) (fun _ _ _ h => h) (by rfl) (v := ?_) ?_ (by assumption) ?_
          rotate_left
          focus
            intro wS hSw
            obtain ⟨s0, s1, s2, s3, s4, s5, s6, s7, s8⟩ := hSw
            go_simp
            (try simp only [s0, s1, s2, s3, s4, s5, s6, s7, s8])
            try with_reducible rfl
          intro hHeld
          try simp only [Act.put, List.setIfInBounds_toArray, List.set_cons_zero, List.set_cons_succ]
          refine wpAnyR_take 9 rfl (by kernel_rfl) (by kernel_rfl) (by kernel_rfl) (by kernel_rfl) (fun _ _ _ h => h) (by rfl) (v := ?_) ?_ (by assumption) ?_
          rotate_left
          focus
            intro wS hSw
            obtain ⟨s0, s1, s2, s3, s4, s5, s6, s7, s8⟩ := hSw
            go_simp
            (try simp only [s0, s1, s2, s3, s4, s5, s6, s7, s8])
            try with_reducible rfl
          intro hHeld
          try simp only [Act.put, List.setIfInBounds_toArray, List.set_cons_zero, List.set_cons_succ]
          refine wpAnyR_take 10 rfl (by kernel_rfl) (by kernel_rfl) (by kernel_rfl) (by kernel_rfl) (fun _ _ _ h => h) (by rfl) (v := ?_) ?_ (by assumption) ?_
          rotate_left
          focus
            intro wS hSw
            obtain ⟨s0, s1, s2, s3, s4, s5, s6, s7, s8⟩ := hSw
            go_simp
            (try simp only [s0, s1, s2, s3, s4, s5, s6, s7, s8])
            try with_reducible rfl
          intro hHeld
          try simp only [Act.put, List.setIfInBounds_toArray, List.set_cons_zero, List.set_cons_succ]
          refine wpAnyR_take 11 rfl (by kernel_rfl) (by kernel_rfl) (by kernel_rfl) (by kernel_rfl) (fun _ _ _ h => h) (by rfl) (v := ?_) ?_ (by assumption) ?_
          rotate_left
          focus
            intro wS hSw
            obtain ⟨s0, s1, s2, s3, s4, s5, s6, s7, s8⟩ := hSw
            go_simp
            (try simp only [s0, s1, s2, s3, s4, s5, s6, s7, s8])
            try with_reducible rfl
          intro hHeld
          try simp only [Act.put, List.setIfInBounds_toArray, List.set_cons_zero, List.set_cons_succ]
          refine wpAnyR_take 12 rfl (by kernel_rfl) (by kernel_rfl) (by kernel_rfl) (by kernel_rfl) (fun _ _ _ h => h) (by rfl) (v := ?_) ?_ (by assumption) ?_
          rotate_left
          focus
            intro wS hSw
            obtain ⟨s0, s1, s2, s3, s4, s5, s6, s7, s8⟩ := hSw
            go_simp
            (try simp only [s0, s1, s2, s3, s4, s5, s6, s7, s8])
            try with_reducible rfl
          intro hHeld
          try simp only [Act.put, List.setIfInBounds_toArray, List.set_cons_zero, List.set_cons_succ]
          refine wpAnyR_take 13 rfl (by kernel_rfl) (by kernel_rfl) (by kernel_rfl) (by kernel_rfl) (fun _ _ _ h => h) (by rfl) (v := ?_) ?_ (by assumption) ?_
          rotate_left
          focus
            intro wS hSw
            obtain ⟨s0, s1, s2, s3, s4, s5, s6, s7, s8⟩ := hSw
            go_simp
            (try simp only [s0, s1, s2, s3, s4, s5, s6, s7, s8])
            try with_reducible rfl
          intro hHeld
          try simp only [Act.put, List.setIfInBounds_toArray, List.set_cons_zero, List.set_cons_succ]
          refine wpAnyR_take 14 rfl (by kernel_rfl) (by kernel_rfl) (by kernel_rfl) (by kernel_rfl) (fun _ _ _ h => h) (by rfl) (v := ?_) ?_ (by assumption) ?_
          rotate_left
          focus
            intro wS hSw
            obtain ⟨s0, s1, s2, s3, s4, s5, s6, s7, s8⟩ := hSw
            go_simp
            (try simp only [s0, s1, s2, s3, s4, s5, s6, s7, s8])
            try with_reducible rfl
          intro hHeld
          try simp only [Act.put, List.setIfInBounds_toArray, List.set_cons_zero, List.set_cons_succ]
          refine wpAnyR_take 15 rfl (by kernel_rfl) (by kernel_rfl) (by kernel_rfl) (by kernel_rfl) (fun _ _ _ h => h) (by rfl) (v := ?_) ?_ (by assumption) ?_
          rotate_left
          focus
            intro wS hSw
            obtain ⟨s0, s1, s2, s3, s4, s5, s6, s7, s8⟩ := hSw
            go_simp
            (try simp only [s0, s1, s2, s3, s4, s5, s6, s7, s8])
            try with_reducible rfl
          intro hHeld
          try simp only [Act.put, List.setIfInBounds_toArray, List.set_cons_zero, List.set_cons_succ]
          refine wpAnyR_take 16 rfl (by kernel_rfl) (by kernel_rfl) (by kernel_rfl) (by kernel_rfl) (fun _ _ _ h => h) (by rfl) (v := ?_) ?_ (by assumption) ?_
          rotate_left
          focus
            intro wS hSw
            obtain ⟨s0, s1, s2, s3, s4, s5, s6, s7, s8⟩ := hSw
            go_simp
            (try simp only [s0, s1, s2, s3, s4, s5, s6, s7, s8])
            try with_reducible rfl
          intro hHeld
          try simp only [Act.put, List.setIfInBounds_toArray, List.set_cons_zero, List.set_cons_succ]
          refine wpAnyR_take 17 rfl (by kernel_rfl) (by kernel_rfl) (by kernel_rfl) (by kernel_rfl) (fun _ _ _ h => h) (by rfl) (v := ?_) ?_ (by assumption) ?_
          rotate_left
          focus
            intro wS hSw
            obtain ⟨s0, s1, s2, s3, s4, s5, s6, s7, s8⟩ := hSw
            go_simp
            (try simp only [s0, s1, s2, s3, s4, s5, s6, s7, s8])
            try with_reducible rfl
          intro hHeld
          try simp only [Act.put, List.setIfInBounds_toArray, List.set_cons_zero, List.set_cons_succ]
          refine wpAnyR_take 18 rfl (by kernel_rfl) (by kernel_rfl) (by kernel_rfl) (by kernel_rfl) (fun _ _ _ h => h) (by rfl) (v := ?_) ?_ (by assumption) ?_
          rotate_left
          focus
            intro wS hSw
            obtain ⟨s0, s1, s2, s3, s4, s5, s6, s7, s8⟩ := hSw
            go_simp
            (try simp only [s0, s1, s2, s3, s4, s5, s6, s7, s8])
            try with_reducible rfl
          intro hHeld
          try simp only [Act.put, List.setIfInBounds_toArray, List.set_cons_zero, List.set_cons_succ]
          refine wpAnyR_take 19 rfl (by kernel_rfl) (by kernel_rfl) (by kernel_rfl) (by kernel_rfl) (fun _ _ _ h => h) (by rfl) (v := ?_) ?_ (by assumption) ?_
          rotate_left
          focus
            intro wS hSw
            obtain ⟨s0, s1, s2, s3, s4, s5, s6, s7, s8⟩ := hSw
            go_simp
            (try simp only [s0, s1, s2, s3, s4, s5, s6, s7, s8])
            try with_reducible rfl
          intro hHeld
          try simp only [Act.put, List.setIfInBounds_toArray, List.set_cons_zero, List.set_cons_succ]
          refine wpAnyR_take 20 rfl (by kernel_rfl) (by kernel_rfl) (by kernel_rfl) (by kernel_rfl) (fun _ _ _ h => h) (by rfl) (v := ?_) ?_ (by assumption) ?_
          rotate_left
          focus
            intro wS hSw
            obtain ⟨s0, s1, s2, s3, s4, s5, s6, s7, s8⟩ := hSw
            go_simp
            (try simp only [s0, s1, s2, s3, s4, s5, s6, s7, s8])
            try with_reducible rfl
          intro hHeld
          try simp only [Act.put, List.setIfInBounds_toArray, List.set_cons_zero, List.set_cons_succ]
          refine wpAnyR_take 21 rfl (by kernel_rfl) (by kernel_rfl) (by kernel_rfl) (by kernel_rfl) (fun _ _ _ h => h) (by rfl) (v := ?_) ?_ (by assumption) ?_
          rotate_left
          focus
            intro wS hSw
            obtain ⟨s0, s1, s2, s3, s4, s5, s6, s7, s8⟩ := hSw
            go_simp
            (try simp only [s0, s1, s2, s3, s4, s5, s6, s7, s8])
            try with_reducible rfl
          intro hHeld
          try simp only [Act.put, List.setIfInBounds_toArray, List.set_cons_zero, List.set_cons_succ]
          refine wpAnyR_take 22 rfl (by kernel_rfl) (by kernel_rfl) (by kernel_rfl) (by kernel_rfl) (fun _ _ _ h => h) (by rfl) (v := ?_) ?_ (by assumption) ?_
          rotate_left
          focus
            intro wS hSw
            obtain ⟨s0, s1, s2, s3, s4, s5, s6, s7, s8⟩ := hSw
            go_simp
            (try simp only [s0, s1, s2, s3, s4, s5, s6, s7, s8])
            try with_reducible rfl
          intro hHeld
          try simp only [Act.put, List.setIfInBounds_toArray, List.set_cons_zero, List.set_cons_succ]
          refine wpAnyR_take 23 rfl (by kernel_rfl) (by kernel_rfl) (by kernel_rfl) (by kernel_rfl) (fun _ _ _ h => h) (by rfl) (v := ?_) ?_ (by assumption) ?_
          rotate_left
          focus
            intro wS hSw
            obtain ⟨s0, s1, s2, s3, s4, s5, s6, s7, s8⟩ := hSw
            go_simp
            (try simp only [s0, s1, s2, s3, s4, s5, s6, s7, s8])
            try with_reducible rfl
          intro hHeld
          try simp only [Act.put, List.setIfInBounds_toArray, List.set_cons_zero, List.set_cons_succ]
          refine wpAnyR_take 24 rfl (by kernel_rfl) (by kernel_rfl) (by kernel_rfl) (by kernel_rfl) (fun _ _ _ h => h) (by rfl) (v := ?_) ?_ (by assumption) ?_
          rotate_left
          focus
            intro wS hSw
            obtain ⟨s0, s1, s2, s3, s4, s5, s6, s7, s8⟩ := hSw
            go_simp
            (try simp only [s0, s1, s2, s3, s4, s5, s6, s7, s8])
            try with_reducible rfl
          intro hHeld
          try simp only [Act.put, List.setIfInBounds_toArray, List.set_cons_zero, List.set_cons_succ]
          refine wpAnyR_step 25 rfl (by kernel_rfl) (fun K hK => ?_)
          go_simp
          go_at_call 38
          refine HSM.out.mono ?_
          rintro r wD ⟨rfl, qD, rfl⟩
          have HBD := Lib.hid (below_drewN hdr qD)
          refine hK.out _ _ (HSW.out _ HBD.out) (fun hHeld => ?_)
          clear hK K
          try simp only [Act.put, List.setIfInBounds_toArray, List.set_cons_zero, List.set_cons_succ]
          refine wpAnyR_take 26 rfl (by kernel_rfl) (by kernel_rfl) (by kernel_rfl) (by kernel_rfl) (fun _ _ _ h => h) (by rfl) (v := ?_) ?_ (by assumption) ?_
          rotate_left
          focus
            intro wS hSw
            obtain ⟨s0, s1, s2, s3, s4, s5, s6, s7, s8⟩ := hSw
            go_simp
            (try simp only [s0, s1, s2, s3, s4, s5, s6, s7, s8])
            try with_reducible rfl
          intro hHeld
          try simp only [Act.put, List.setIfInBounds_toArray, List.set_cons_zero, List.set_cons_succ]
          refine wpAnyR_take 27 rfl (by kernel_rfl) (by kernel_rfl) (by kernel_rfl) (by kernel_rfl) (fun _ _ _ h => h) (by rfl) (v := ?_) ?_ (by assumption) ?_
          rotate_left
          focus
            intro wS hSw
            obtain ⟨s0, s1, s2, s3, s4, s5, s6, s7, s8⟩ := hSw
            go_simp
            (try simp only [s0, s1, s2, s3, s4, s5, s6, s7, s8])
            try with_reducible rfl
          intro hHeld
          try simp only [Act.put, List.setIfInBounds_toArray, List.set_cons_zero, List.set_cons_succ]
          refine wpAnyR_take 28 rfl (by kernel_rfl) (by kernel_rfl) (by kernel_rfl) (by kernel_rfl) (fun _ _ _ h => h) (by rfl) (v := ?_) ?_ (by assumption) ?_
          rotate_left
          focus
            intro wS hSw
            obtain ⟨s0, s1, s2, s3, s4, s5, s6, s7, s8⟩ := hSw
            go_simp
            (try simp only [s0, s1, s2, s3, s4, s5, s6, s7, s8])
            try with_reducible rfl
          intro hHeld
          try simp only [Act.put, List.setIfInBounds_toArray, List.set_cons_zero, List.set_cons_succ]
          refine wpAnyR_take 29 rfl (by kernel_rfl) (by kernel_rfl) (by kernel_rfl) (by kernel_rfl) (fun _ _ _ h => h) (by rfl) (v := ?_) ?_ (by assumption) ?_
          rotate_left
          focus
            intro wS hSw
            obtain ⟨s0, s1, s2, s3, s4, s5, s6, s7, s8⟩ := hSw
            go_simp
            (try simp only [s0, s1, s2, s3, s4, s5, s6, s7, s8])
            try with_reducible rfl
          intro hHeld
          try simp only [Act.put, List.setIfInBounds_toArray, List.set_cons_zero, List.set_cons_succ]
          refine wpAnyR_take 31 rfl (by kernel_rfl) (by kernel_rfl) (by kernel_rfl) (by kernel_rfl) (fun _ _ _ h => h) (by rfl) (v := ?_) ?_ (by assumption) ?_
          rotate_left
          focus
            intro wS hSw
            obtain ⟨s0, s1, s2, s3, s4, s5, s6, s7, s8⟩ := hSw
            go_simp
            (try simp only [s0, s1, s2, s3, s4, s5, s6, s7, s8])
            try with_reducible rfl
          intro hHeld
          try simp only [Act.put, List.setIfInBounds_toArray, List.set_cons_zero, List.set_cons_succ]
          refine wpAnyR_take 32 rfl (by kernel_rfl) (by kernel_rfl) (by kernel_rfl) (by kernel_rfl) (fun _ _ _ h => h) (by rfl) (v := ?_) ?_ (by assumption) ?_
          rotate_left
          focus
            intro wS hSw
            obtain ⟨s0, s1, s2, s3, s4, s5, s6, s7, s8⟩ := hSw
            go_simp
            (try simp only [s0, s1, s2, s3, s4, s5, s6, s7, s8])
            try with_reducible rfl
          intro hHeld
          try simp only [Act.put, List.setIfInBounds_toArray, List.set_cons_zero, List.set_cons_succ]
          refine wpAnyR_take 33 rfl (by kernel_rfl) (by kernel_rfl) (by kernel_rfl) (by kernel_rfl) (fun _ _ _ h => h) (by rfl) (v := ?_) ?_ (by assumption) ?_
          rotate_left
          focus
            intro wS hSw
            obtain ⟨s0, s1, s2, s3, s4, s5, s6, s7, s8⟩ := hSw
            go_simp
            (try simp only [s0, s1, s2, s3, s4, s5, s6, s7, s8])
            try with_reducible rfl
          intro hHeld
          try simp only [Act.put, List.setIfInBounds_toArray, List.set_cons_zero, List.set_cons_succ]
          refine wpAnyR_take 34 rfl (by kernel_rfl) (by kernel_rfl) (by kernel_rfl) (by kernel_rfl) (fun _ _ _ h => h) (by rfl) (v := ?_) ?_ (by assumption) ?_
          rotate_left
          focus
            intro wS hSw
            obtain ⟨s0, s1, s2, s3, s4, s5, s6, s7, s8⟩ := hSw
            go_simp
            (try simp only [s0, s1, s2, s3, s4, s5, s6, s7, s8])
            try with_reducible rfl
          intro hHeld
          try simp only [Act.put, List.setIfInBounds_toArray, List.set_cons_zero, List.set_cons_succ]
          refine wpAnyR_take 35 rfl (by kernel_rfl) (by kernel_rfl) (by kernel_rfl) (by kernel_rfl) (fun _ _ _ h => h) (by rfl) (v := ?_) ?_ (by assumption) ?_
          rotate_left
          focus
            intro wS hSw
            obtain ⟨s0, s1, s2, s3, s4, s5, s6, s7, s8⟩ := hSw
            go_simp
            (try simp only [s0, s1, s2, s3, s4, s5, s6, s7, s8])
            try with_reducible rfl
          intro hHeld
          try simp only [Act.put, List.setIfInBounds_toArray, List.set_cons_zero, List.set_cons_succ]
          refine wpAnyR_take 36 rfl (by kernel_rfl) (by kernel_rfl) (by kernel_rfl) (by kernel_rfl) (fun _ _ _ h => h) (by rfl) (v := ?_) ?_ (by assumption) ?_
          rotate_left
          focus
            intro wS hSw
            obtain ⟨s0, s1, s2, s3, s4, s5, s6, s7, s8⟩ := hSw
            go_simp
            (try simp only [s0, s1, s2, s3, s4, s5, s6, s7, s8])
            try with_reducible rfl
          intro hHeld
          try simp only [Act.put, List.setIfInBounds_toArray, List.set_cons_zero, List.set_cons_succ]
          refine wpAnyR_take 37 rfl (by kernel_rfl) (by kernel_rfl) (by kernel_rfl) (by kernel_rfl) (fun _ _ _ h => h) (by rfl) (v := ?_) ?_ (by assumption) ?_
          rotate_left
          focus
            intro wS hSw
            obtain ⟨s0, s1, s2, s3, s4, s5, s6, s7, s8⟩ := hSw
            go_simp
            (try simp only [s0, s1, s2, s3, s4, s5, s6, s7, s8])
            try with_reducible rfl
          intro hHeld
          try simp only [Act.put, List.setIfInBounds_toArray, List.set_cons_zero, List.set_cons_succ]
          refine wpAnyR_take 38 rfl (by kernel_rfl) (by kernel_rfl) (by kernel_rfl) (by kernel_rfl) (fun _ _ _ h => h) (by rfl) (v := ?_) ?_ (by assumption) ?_
          rotate_left
          focus
            intro wS hSw
            obtain ⟨s0, s1, s2, s3, s4, s5, s6, s7, s8⟩ := hSw
            go_simp
            (try simp only [s0, s1, s2, s3, s4, s5, s6, s7, s8])
            try with_reducible rfl
          intro hHeld
          try simp only [Act.put, List.setIfInBounds_toArray, List.set_cons_zero, List.set_cons_succ]
          refine wpAnyR_take 39 rfl (by kernel_rfl) (by kernel_rfl) (by kernel_rfl) (by kernel_rfl) (fun _ _ _ h => h) (by rfl) (v := ?_) ?_ (by assumption) ?_
          rotate_left
          focus
            intro wS hSw
            obtain ⟨s0, s1, s2, s3, s4, s5, s6, s7, s8⟩ := hSw
            go_simp
            (try simp only [s0, s1, s2, s3, s4, s5, s6, s7, s8])
            try with_reducible rfl
          intro hHeld
          try simp only [Act.put, List.setIfInBounds_toArray, List.set_cons_zero, List.set_cons_succ]
          refine wpAnyR_take 40 rfl (by kernel_rfl) (by kernel_rfl) (by kernel_rfl) (by kernel_rfl) (fun _ _ _ h => h) (by rfl) (v := ?_) ?_ (by assumption) ?_
          rotate_left
          focus
            intro wS hSw
            obtain ⟨s0, s1, s2, s3, s4, s5, s6, s7, s8⟩ := hSw
            go_simp
            (try simp only [s0, s1, s2, s3, s4, s5, s6, s7, s8])
            try with_reducible rfl
          intro hHeld
          try simp only [Act.put, List.setIfInBounds_toArray, List.set_cons_zero, List.set_cons_succ]
          refine wpAnyR_take 41 rfl (by kernel_rfl) (by kernel_rfl) (by kernel_rfl) (by kernel_rfl) (fun _ _ _ h => h) (by rfl) (v := ?_) ?_ (by assumption) ?_
          rotate_left
          focus
            intro wS hSw
            obtain ⟨s0, s1, s2, s3, s4, s5, s6, s7, s8⟩ := hSw
            go_simp
            (try simp only [s0, s1, s2, s3, s4, s5, s6, s7, s8])
            try with_reducible rfl
          intro hHeld
          try simp only [Act.put, List.setIfInBounds_toArray, List.set_cons_zero, List.set_cons_succ]
          refine wpAnyR_take 42 rfl (by kernel_rfl) (by kernel_rfl) (by kernel_rfl) (by kernel_rfl) (fun _ _ _ h => h) (by rfl) (v := ?_) ?_ (by assumption) ?_
          rotate_left
          focus
            intro wS hSw
            obtain ⟨s0, s1, s2, s3, s4, s5, s6, s7, s8⟩ := hSw
            go_simp
            (try simp only [s0, s1, s2, s3, s4, s5, s6, s7, s8])
            try with_reducible rfl
          intro hHeld
          try simp only [Act.put, List.setIfInBounds_toArray, List.set_cons_zero, List.set_cons_succ]
          refine wpAnyR_take 43 rfl (by kernel_rfl) (by kernel_rfl) (by kernel_rfl) (by kernel_rfl) (fun _ _ _ h => h) (by rfl) (v := ?_) ?_ (by assumption) ?_
          rotate_left
          focus
            intro wS hSw
            obtain ⟨s0, s1, s2, s3, s4, s5, s6, s7, s8⟩ := hSw
            go_simp
            (try simp only [s0, s1, s2, s3, s4, s5, s6, s7, s8])
            try with_reducible rfl
          intro hHeld
          try simp only [Act.put, List.setIfInBounds_toArray, List.set_cons_zero, List.set_cons_succ]
          have hbd2 : Below wC.heap.size wC (wC.drewN (1 + qD)) := below_drewN (Below.refl _ _) (1 + qD)
          have hcz := conv_txt S (wC.drewN (1 + qD))
          have hby := strZ_byt (wC.drewN (1 + qD)) S
          have hbl := strZ_below (wC.drewN (1 + qD)) S
          obtain ⟨wE, hwE⟩ : ∃ wE, Lib.bytesWorld (wC.drewN (1 + qD)) 5 S = wE := ⟨_, rfl⟩
          rw [hwE] at hby hbl hcz
          obtain ⟨cE, hcc⟩ : ∃ cE, grownCap (wC.drewN (1 + qD)) S.size 0 5 = cE := ⟨_, rfl⟩
          rw [hcc] at hby hcz
          obtain ⟨AE, hAE⟩ : ∃ AE : Option Addr, some ⟨(wC.drewN (1 + qD)).heap.size, 0, none⟩ = AE := ⟨_, rfl⟩
          rw [hAE] at hby hcz
          have HBE := Lib.hid (hbd2.trans (hbl.mono hbd2.size))
          have hsd := rstands AE S.size cE _ (strZ S) P WS wE hby (by omega) (by have := HWS.out; omega)
          rw [HST.out] at hsd
          have HSD := Lib.hid hsd
          clear hby hbl hwE hcc hAE hsd hbd2
          refine wpAnyR_step 30 rfl (by kernel_rfl) (fun K hK => ?_)
          go_simp
          (try rw [hcz])
          (try simp only [Result.andThen])
          refine hK.out _ _ (HSW.out _ HBE.out) (fun hHeld => ?_)
          clear hK K
          try simp only [Act.put, List.setIfInBounds_toArray, List.set_cons_zero, List.set_cons_succ]
          refine wpAnyR_step 44 rfl (by kernel_rfl) (fun K hK => ?_)
          go_simp
          go_at_call 39
          refine HSD.out.mono ?_
          rintro r wF ⟨rfl, qF, rfl⟩
          have HBF := Lib.hid (below_drewN HBE.out qF)
          refine hK.out _ _ (HSW.out _ HBF.out) (fun hHeld => ?_)
          clear hK K
          try simp only [Act.put, List.setIfInBounds_toArray, List.set_cons_zero, List.set_cons_succ]
          refine wpAnyR_take 45 rfl (by kernel_rfl) (by kernel_rfl) (by kernel_rfl) (by kernel_rfl) (fun _ _ _ h => h) (by rfl) (v := ?_) ?_ (by assumption) ?_
          rotate_left
          focus
            intro wS hSw
            obtain ⟨s0, s1, s2, s3, s4, s5, s6, s7, s8⟩ := hSw
            go_simp
            (try simp only [s0, s1, s2, s3, s4, s5, s6, s7, s8])
            try with_reducible rfl
          intro hHeld
          try simp only [Act.put, List.setIfInBounds_toArray, List.set_cons_zero, List.set_cons_succ]
          refine wpAnyR_take 46 rfl (by kernel_rfl) (by kernel_rfl) (by kernel_rfl) (by kernel_rfl) (fun _ _ _ h => h) (by rfl) (v := ?_) ?_ (by assumption) ?_
          rotate_left
          focus
            intro wS hSw
            obtain ⟨s0, s1, s2, s3, s4, s5, s6, s7, s8⟩ := hSw
            go_simp
            (try simp only [s0, s1, s2, s3, s4, s5, s6, s7, s8])
            try with_reducible rfl
          intro hHeld
          try simp only [Act.put, List.setIfInBounds_toArray, List.set_cons_zero, List.set_cons_succ]
          refine wpAnyR_done (by kernel_rfl) ?_
          refine NoPanic.normal ?_
          have HLF := Lib.hid (HLC.out.low HBF.out)
          have HTF := Lib.hid (HTC.out.low_ HBF.out)
          clear HSW HSD HST HBE HBF HBD HSM
          go_wp2_with fail
          go_roundw
          case rel => exact ⟨j + 1, by go_num, by have := HJI.out; omega, HLF, HTF⟩
          case measure => have := HJI.out; simp [intOf]; omega
        · obtain rfl : j = i := by omega
          obtain ⟨hB, hT⟩ := bk_end (prs us bs j) ZS HZS.out
          have hl := HL.out
          rw [← HSL.out] at hB hT hl
          have HT1 := Lib.hid (ls_tok (by omega) hl hT hB)
          have k0 := hl.lx.k0
          clear hB hT hl
          go_upto_region 24 with (first
            | (go_at_call 37; refine HT1.out.mono ?_; (rintro r w7 ⟨A7, m7, c7, rfl, hl7, ho7, hy7, hf7⟩); (try dsimp only at hl7 hy7); have HL7 := Lib.hid hl7; clear hl7 ho7 hy7 hf7))
          clear k0
          have hb8 := (Below.refl w7.heap.size w7).alloc (Nat.le_refl _) (.cells #[.int .i64 0, .int .i64 ((S.size + 1 : Nat) : Int), .int .i64 0, .slice A7 m7 c7] 56)
          have hx8 := Bx.new w7 56 (.int .i64 0) (.int .i64 ((S.size + 1 : Nat) : Int)) (.int .i64 0) (.slice A7 m7 c7)
          have e1 : ((S.size + 1 : Nat) : Int) = (S.size : Int) + 1 := by omega
          simp only [e1] at hb8 hx8
          (try simp only [e1])
          obtain ⟨w8, hw8⟩ : ∃ w8, w7.alloc (.cells #[.int .i64 0, .int .i64 ((S.size : Int) + 1), .int .i64 0, .slice A7 m7 c7] 56) = w8 := ⟨_, rfl⟩
          rw [hw8] at hb8 hx8
          rw [hw8]
          have HL8 := Lib.hid (HL7.out.low hb8)
          have c0 := hx8.c0
          have c1 := hx8.c1
          have hr1 : IntKind.i64.wrap ((S.size : Int) + 1) = (S.size : Int) + 1 := IntWalk.i64_in _ (by omega)
          clear hb8 hx8 hw8 HL7 HT1 HL HT e1
          go_wp2_with fail
          go_ret
          exact ⟨rfl, HL8.out.bl⟩
theorem blanks_walk (A : Option Addr) (n c : Nat) (us : List Int) (B : Option Addr) (k d : Nat) (bs : List Int) (w : World) (hz : Byt w w.heap.size A n c us) (hn : n ≤ 9223372036854775807) (hy : Byt w w.heap.size B k d bs) (hk : k ≤ 9223372036854775807) :
    Calls Try.prog 7 #[.slice A n c, .slice B k d] w fun e w' => e = .returned (.bool true) ∧ Below w.heap.size w w' := by
  rcases Nat.lt_or_ge 60 n with h | h
  · exact blanks_out1 A n c B k d w hn h
  · rcases Nat.lt_or_ge 60 k with h2 | h2
    · exact blanks_out2 A n c B k d w hk h h2
    · exact blanks_main A n c us B k d bs w hz hy h h2
set_option maxRecDepth 100000 in
theorem blanks_lifted (os : Os) (started : os.Started) (H : Type) (enc : TypeId × Value → H) :
    ReturnsInHanded {} Try.checked os 7 .any (Rows.lexBlanksSpec.pre6 enc Try.prog Try.f7 Rows.lexBlanksRow.domain false) (Rows.lexBlanksSpec.post enc Try.prog Try.f7 false true false false) := by
  refine returnsInHanded_of_change (C := Try.checked) own started (by kernel_rfl) Try.func7
    (ChangeSpec.witness6 (enc := enc) (C := Try.checked) false ⟨#[], #[.slice none 0 0, .slice none 0 0], []⟩ 8 (by kernel_rfl) (by kernel_rfl) (by kernel_rfl) (by kernel_rfl)) ?_
  intro W base args ds gs before hval0 hW hcnd _
  have hval : ∀ (j : Nat) t v, Try.f7.params[j]? = some t → args[j]? = some v → Value.okWide Try.prog W .any base t v := hval0
  have hW' := hW
  obtain ⟨p, q, hA0, hV, rfl, hfz, hnd⟩ := hW
  have hA : DataW.TrodAll enc Try.prog W 0 (fun _ => true) true Try.f7.params.toList args.toList ds p := hA0
  rw [Try.params7] at hA hval
  obtain ⟨v0, vs0, d0, ds0, p0, q0, hargs, rfl, rfl, h0, r0⟩ := trodAll_cons hA
  obtain ⟨v1, vs1, d1, ds1, p1, q1, rfl, rfl, rfl, h1, r1⟩ := trodAll_cons r0
  obtain ⟨rfl, rfl, rfl⟩ := trodAll_nil r1
  obtain rfl : args = #[v0, v1] := by cases args; simp_all
  obtain ⟨rfl, rfl⟩ := trodVars_none hV
  obtain ⟨a0, len0, cap0, rfl⟩ := okWide_slice Try.underlying23 (hval 0 23 v0 rfl rfl)
  obtain ⟨zs0, hz0, hcm0⟩ := open_bytes h0 (fun _ => rfl)
  have lt0 : ∀ x ∈ p0, x.block < W.heap.size := by obtain ⟨m, hm⟩ := h0; exact DataW.trod_lt m _ _ _ hm
  obtain ⟨a1, len1, cap1, rfl⟩ := okWide_slice Try.underlying23 (hval 1 23 v1 rfl rfl)
  obtain ⟨zs1, hz1, hcm1⟩ := open_bytes h1 (fun _ => rfl)
  have lt1 : ∀ x ∈ p1, x.block < W.heap.size := by obtain ⟨m, hm⟩ := h1; exact DataW.trod_lt m _ _ _ hm
  have hmx : maxLen = 9223372036854775807 := by decide
  clear hA0 hval0
  refine (blanks_walk a0 len0 cap0 zs0 a1 len1 cap1 zs1 W hz0 (by have := hz0.cap; omega) hz1 (by have := hz1.cap; omega)).mono fun e W' ⟨he, bel⟩ => ?_
  subst he
  exact ⟨_, rfl, _, _, _, [], _, [], hW', trodAll_mk1 (shut_bool Try.underlying4 _), (trodAll_cons_mk (Below.trod laidOut (by kernel_rfl) (of_decide_eq_true (by kernel_rfl)) h0 bel lt0) (trodAll_cons_mk (Below.trod laidOut (by kernel_rfl) (of_decide_eq_true (by kernel_rfl)) h1 bel lt1) trodAll_mk0)), rfl, bel.frame _, fun h => by cases h⟩
/-- LexBlanks: it answers true. -/
theorem blanks_holds : Rows.LexBlanksSaid :=
  OpenClaim.holds_of_wide 7 Try.f7 rfl rfl rfl rfl rfl rfl rfl ⟨rfl, rfl, rfl, rfl, rfl⟩ rfl rfl rfl rfl rfl (by kernel_rfl) Try.func7 (by kernel_rfl)
    (of_decide_eq_true (by kernel_rfl)) (by unfold Func.isWrapper; first | (rw [if_pos (by decide +kernel)]; kernel_rfl) | (rw [if_neg (by decide +kernel)]; exact ⟨rfl, rfl⟩))
    (fun os started H enc _ => blanks_lifted os started H enc)
#print axioms blanks_holds
end Go.Proofs.Ytpomkhcobpihmaa
