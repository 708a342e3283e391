/- Contracts of functions that the law calls, and what they lean on (a part). -/
import Derived.Test.YtpomkhcobpihmaaBla14
import Derived.Test.YtpomkhcobpihmaaBla19
namespace Go.Proofs.Ytpomkhcobpihmaa
section
open Go.RowKit
set_option linter.unusedVariables false
theorem fxLimit (b : Bool) (w : World) : Calls Try.prog 127 #[.bool b] w fun e w' => e = .returned (.int .i64 (if b = true then 2147483647 else 214748364799999)) ∧ w = w' := by
  cases b
  all_goals
    go_enter Try.func127, Try.ntmps127
    go_wp2
    go_ret
    exact ⟨rfl, rfl⟩
theorem parse_at (zs : List Int) (hr : ∀ z ∈ zs, 0 ≤ z ∧ z < 256) :
    ∃ AT NEG s43 s45, stB zs 0 ⟨#[43]⟩ = s43 ∧ stB zs 0 ⟨#[45]⟩ = s45 ∧ AT = (if s43 = true ∨ s45 = true then 1 else 0) ∧ NEG = (!s43 && s45) ∧ AT ≤ zs.length ∧ parseS zs = restS NEG (zs.drop AT) := by
  match zs, hr with
  | [], hr => exact ⟨0, false, false, false, stB_end _ _ _ (Nat.le_refl _), stB_end _ _ _ (Nat.le_refl _), rfl, rfl, Nat.le_refl _, rfl⟩
  | z :: r, hr =>
    have h1 := stB_one (z :: r) 0 43 hr (by simp)
    have h2 := stB_one (z :: r) 0 45 hr (by simp)
    simp at h1 h2
    by_cases ha : z = 43
    · exact ⟨1, false, true, false, by rw [h1, decide_eq_true ha], by rw [h2, decide_eq_false (by omega)], rfl, rfl, by simp, by simp [parseS, ha]⟩
    · by_cases hb : z = 45
      · exact ⟨1, true, false, true, by rw [h1, decide_eq_false ha], by rw [h2, decide_eq_true hb], rfl, rfl, by simp, by simp [parseS, hb]⟩
      · exact ⟨0, false, false, false, by rw [h1, decide_eq_false ha], by rw [h2, decide_eq_false hb], rfl, rfl, by simp, by simp [parseS, ha, hb]⟩
set_option maxRecDepth 100000 in
set_option maxHeartbeats 4000000 in
theorem parse_whole (A : Option Addr) (n c AT q : Nat) (NEG : Bool) (N1 : Int) (X : Int × Bool × Int) (w : World) (hn : n ≤ 1000000) (hat : AT ≤ q) (hrn : q ≤ n)
    (hmi : Calls Try.prog 124 #[.agg #[.pointer (some ⟨w.heap.size, 0, none⟩)]] ((w.alloc (.cells #[.slice A n c, .int .i64 0] 105)).alloc (.cells #[.pointer (some ⟨w.heap.size, 0, none⟩)] 126)) fun e w' => e = .returned (.bool NEG) ∧ Cur w' w.heap.size A n c AT ∧ Only w.heap.size ((w.alloc (.cells #[.slice A n c, .int .i64 0] 105)).alloc (.cells #[.pointer (some ⟨w.heap.size, 0, none⟩)] 126)) w')
    (hah : ∀ W, Cur W w.heap.size A n c AT → Only w.heap.size ((w.alloc (.cells #[.slice A n c, .int .i64 0] 105)).alloc (.cells #[.pointer (some ⟨w.heap.size, 0, none⟩)] 126)) W → Calls Try.prog 125 #[.agg #[.pointer (some ⟨w.heap.size, 0, none⟩)]] W fun e w' => e = .returned (.int .i64 N1) ∧ Cur w' w.heap.size A n c q ∧ Only w.heap.size ((w.alloc (.cells #[.slice A n c, .int .i64 0] 105)).alloc (.cells #[.pointer (some ⟨w.heap.size, 0, none⟩)] 126)) w')
    (hma : ∀ W, Cur W w.heap.size A n c q → Only w.heap.size ((w.alloc (.cells #[.slice A n c, .int .i64 0] 105)).alloc (.cells #[.pointer (some ⟨w.heap.size, 0, none⟩)] 126)) W → Calls Try.prog 93 #[.pointer (some ⟨w.heap.size, 0, none⟩), .string ⟨#[46]⟩] W fun e w' => e = .returned (.bool false) ∧ Cur w' w.heap.size A n c q ∧ Only w.heap.size ((w.alloc (.cells #[.slice A n c, .int .i64 0] 105)).alloc (.cells #[.pointer (some ⟨w.heap.size, 0, none⟩)] 126)) w')
    (h10 : 0 ≤ N1) (h11 : N1 ≤ 2147483648)
    (hF : q < n ∨ q = AT → X = (0, false, 4)) (hG : q = n → q ≠ AT → X = if 2147483647 < N1 then (0, false, 5) else (sgZ NEG N1, true, 0)) :
    Calls Try.prog 111 #[.slice A n c] w fun e w' => e = .returned (tripV X) ∧ Below w.heap.size w w' := by
  have hg1 : w.heap.size < ((w.alloc (.cells #[.slice A n c, .int .i64 0] 105)).alloc (.cells #[.pointer (some ⟨w.heap.size, 0, none⟩)] 126)).heap.size := Nat.lt_trans (size_more _ _) (size_more _ _)
  have hk1 : ∀ W, Only w.heap.size ((w.alloc (.cells #[.slice A n c, .int .i64 0] 105)).alloc (.cells #[.pointer (some ⟨w.heap.size, 0, none⟩)] 126)) W → W.cell? ⟨w.heap.size + 1, 0, none⟩ = some (.pointer (some ⟨w.heap.size, 0, none⟩)) := fun W ho => by
    rw [ho.cell (p := ⟨w.heap.size + 1, 0, none⟩) (by simp) (by simp)]
    simp
  have HBEL : Hid (∀ W, Only w.heap.size ((w.alloc (.cells #[.slice A n c, .int .i64 0] 105)).alloc (.cells #[.pointer (some ⟨w.heap.size, 0, none⟩)] 126)) W → Below w.heap.size w W) := Lib.hid (fun W ho => (((Below.refl _ _).alloc (Nat.le_refl _) _).alloc (Nat.le_of_lt (size_more _ _)) _).trans (ho.below (Nat.le_of_lt hg1)))
  have HK := Lib.hid hk1
  have HNW := Lib.hid (fun W => new_any A n c W)
  have HMI := Lib.hid hmi
  have HAH := Lib.hid hah
  have HMA := Lib.hid hma
  have HRN := Lib.hid hrn
  have hatb : AT ≤ 1000000 := by omega
  have HNN : Hid (n ≤ 9223372036854775807) := Lib.hid (by omega)
  have HLI := Lib.hid (fun W => fxLimit true W)
  obtain ⟨⟨x1, x2, x3⟩, hx⟩ : ∃ x, X = x := ⟨_, rfl⟩
  rw [hx] at hF hG ⊢
  clear hx hg1 hk1 hmi hah hma
  by_cases hleft : q < n
  · have HRES := Lib.hid (hF (.inl hleft))
    have hli : (0 : Int) < (n : Int) - q := by omega
    clear hF hG hrn
    go_enter Try.func111, Try.ntmps111
    go_wp2_with (first
      | (go_at_call 59; refine (HNW.out _).mono ?_; rintro e w1 ⟨rfl, rfl⟩)
      | (go_at_call 124; have hm := HMI.out; (with_reducible refine hm.mono ?_); clear hm; rintro e w2 ⟨rfl, hc2, ho2⟩; have hk2 := HK.out _ ho2; have HC2 := Lib.hid hc2; have HO2 := Lib.hid ho2; clear hc2 ho2)
      | (go_at_call 61; have hm := pos_any _ _ _ _ _ w2 HC2.out; (with_reducible refine hm.mono ?_); clear hm; rintro e w' ⟨rfl, rfl⟩)
      | (go_at_call 125; have hm := HAH.out w2 HC2.out HO2.out; (with_reducible refine hm.mono ?_); clear hm; rintro e w3 ⟨rfl, hc3, ho3⟩; have hk3 := HK.out _ ho3; have HC3 := Lib.hid hc3; have HO3 := Lib.hid ho3; clear hc3 ho3)
      | (go_at_call 93; have hm := HMA.out w3 HC3.out HO3.out; (with_reducible refine hm.mono ?_); clear hm; rintro e w4 ⟨rfl, hc4, ho4⟩; have hk4 := HK.out _ ho4; have HC4 := Lib.hid hc4; have HO4 := Lib.hid ho4; clear hc4 ho4)
      | (go_at_call 109; have hm := left_any _ _ _ _ _ w4 HC4.out HRN.out HNN.out; (with_reducible refine hm.mono ?_); clear hm; rintro e w' ⟨rfl, rfl⟩)
      | (go_at_call 61; have hm := pos_any _ _ _ _ _ w4 HC4.out; (with_reducible refine hm.mono ?_); clear hm; rintro e w' ⟨rfl, rfl⟩)
      | (go_at_call 127; have hm := HLI.out w4; (with_reducible refine hm.mono ?_); clear hm; rintro e w' ⟨rfl, rfl⟩))
    go_ret3
    exact ⟨by rw [HRES.out]; rfl, HBEL.out _ HO4.out⟩
  · have hli : decide (q < n) = false := decide_eq_false hleft
    by_cases hk0 : q = AT
    · have HRES := Lib.hid (hF (.inr hk0))
      have heq : ((q : Int) == (AT : Int)) = true := beq_iff_eq.2 (by omega)
      clear hleft hF hG hk0 hrn
      go_enter Try.func111, Try.ntmps111
      go_wp2_with (first
        | (go_at_call 59; refine (HNW.out _).mono ?_; rintro e w1 ⟨rfl, rfl⟩)
        | (go_at_call 124; have hm := HMI.out; (with_reducible refine hm.mono ?_); clear hm; rintro e w2 ⟨rfl, hc2, ho2⟩; have hk2 := HK.out _ ho2; have HC2 := Lib.hid hc2; have HO2 := Lib.hid ho2; clear hc2 ho2)
        | (go_at_call 61; have hm := pos_any _ _ _ _ _ w2 HC2.out; (with_reducible refine hm.mono ?_); clear hm; rintro e w' ⟨rfl, rfl⟩)
        | (go_at_call 125; have hm := HAH.out w2 HC2.out HO2.out; (with_reducible refine hm.mono ?_); clear hm; rintro e w3 ⟨rfl, hc3, ho3⟩; have hk3 := HK.out _ ho3; have HC3 := Lib.hid hc3; have HO3 := Lib.hid ho3; clear hc3 ho3)
        | (go_at_call 93; have hm := HMA.out w3 HC3.out HO3.out; (with_reducible refine hm.mono ?_); clear hm; rintro e w4 ⟨rfl, hc4, ho4⟩; have hk4 := HK.out _ ho4; have HC4 := Lib.hid hc4; have HO4 := Lib.hid ho4; clear hc4 ho4)
        | (go_at_call 109; have hm := left_any _ _ _ _ _ w4 HC4.out HRN.out HNN.out; (with_reducible refine hm.mono ?_); clear hm; rintro e w' ⟨rfl, rfl⟩)
        | (go_at_call 61; have hm := pos_any _ _ _ _ _ w4 HC4.out; (with_reducible refine hm.mono ?_); clear hm; rintro e w' ⟨rfl, rfl⟩)
        | (go_at_call 127; have hm := HLI.out w4; (with_reducible refine hm.mono ?_); clear hm; rintro e w' ⟨rfl, rfl⟩))
      go_ret3
      exact ⟨by rw [HRES.out]; rfl, HBEL.out _ HO4.out⟩
    · have heq : ((q : Int) == (AT : Int)) = false := beq_eq_false_iff_ne.2 (by omega)
      have hres := hG (by omega) hk0
      by_cases hbig : 2147483647 < N1
      · rw [if_pos hbig] at hres
        have HRES := Lib.hid hres
        clear hleft hF hG hk0 hrn hres
        go_enter Try.func111, Try.ntmps111
        go_wp2_with (first
          | (go_at_call 59; refine (HNW.out _).mono ?_; rintro e w1 ⟨rfl, rfl⟩)
          | (go_at_call 124; have hm := HMI.out; (with_reducible refine hm.mono ?_); clear hm; rintro e w2 ⟨rfl, hc2, ho2⟩; have hk2 := HK.out _ ho2; have HC2 := Lib.hid hc2; have HO2 := Lib.hid ho2; clear hc2 ho2)
          | (go_at_call 61; have hm := pos_any _ _ _ _ _ w2 HC2.out; (with_reducible refine hm.mono ?_); clear hm; rintro e w' ⟨rfl, rfl⟩)
          | (go_at_call 125; have hm := HAH.out w2 HC2.out HO2.out; (with_reducible refine hm.mono ?_); clear hm; rintro e w3 ⟨rfl, hc3, ho3⟩; have hk3 := HK.out _ ho3; have HC3 := Lib.hid hc3; have HO3 := Lib.hid ho3; clear hc3 ho3)
          | (go_at_call 93; have hm := HMA.out w3 HC3.out HO3.out; (with_reducible refine hm.mono ?_); clear hm; rintro e w4 ⟨rfl, hc4, ho4⟩; have hk4 := HK.out _ ho4; have HC4 := Lib.hid hc4; have HO4 := Lib.hid ho4; clear hc4 ho4)
          | (go_at_call 109; have hm := left_any _ _ _ _ _ w4 HC4.out HRN.out HNN.out; (with_reducible refine hm.mono ?_); clear hm; rintro e w' ⟨rfl, rfl⟩)
          | (go_at_call 61; have hm := pos_any _ _ _ _ _ w4 HC4.out; (with_reducible refine hm.mono ?_); clear hm; rintro e w' ⟨rfl, rfl⟩)
          | (go_at_call 127; have hm := HLI.out w4; (with_reducible refine hm.mono ?_); clear hm; rintro e w' ⟨rfl, rfl⟩))
        go_ret3
        exact ⟨by rw [HRES.out]; rfl, HBEL.out _ HO4.out⟩
      · rw [if_neg hbig] at hres
        cases NEG
        · have HRES := Lib.hid hres
          clear hleft hF hG hk0 hrn hres
          go_enter Try.func111, Try.ntmps111
          go_wp2_with (first
            | (go_at_call 59; refine (HNW.out _).mono ?_; rintro e w1 ⟨rfl, rfl⟩)
            | (go_at_call 124; have hm := HMI.out; (with_reducible refine hm.mono ?_); clear hm; rintro e w2 ⟨rfl, hc2, ho2⟩; have hk2 := HK.out _ ho2; have HC2 := Lib.hid hc2; have HO2 := Lib.hid ho2; clear hc2 ho2)
            | (go_at_call 61; have hm := pos_any _ _ _ _ _ w2 HC2.out; (with_reducible refine hm.mono ?_); clear hm; rintro e w' ⟨rfl, rfl⟩)
            | (go_at_call 125; have hm := HAH.out w2 HC2.out HO2.out; (with_reducible refine hm.mono ?_); clear hm; rintro e w3 ⟨rfl, hc3, ho3⟩; have hk3 := HK.out _ ho3; have HC3 := Lib.hid hc3; have HO3 := Lib.hid ho3; clear hc3 ho3)
            | (go_at_call 93; have hm := HMA.out w3 HC3.out HO3.out; (with_reducible refine hm.mono ?_); clear hm; rintro e w4 ⟨rfl, hc4, ho4⟩; have hk4 := HK.out _ ho4; have HC4 := Lib.hid hc4; have HO4 := Lib.hid ho4; clear hc4 ho4)
            | (go_at_call 109; have hm := left_any _ _ _ _ _ w4 HC4.out HRN.out HNN.out; (with_reducible refine hm.mono ?_); clear hm; rintro e w' ⟨rfl, rfl⟩)
            | (go_at_call 61; have hm := pos_any _ _ _ _ _ w4 HC4.out; (with_reducible refine hm.mono ?_); clear hm; rintro e w' ⟨rfl, rfl⟩)
            | (go_at_call 127; have hm := HLI.out w4; (with_reducible refine hm.mono ?_); clear hm; rintro e w' ⟨rfl, rfl⟩))
          go_ret3
          exact ⟨by rw [HRES.out]; rfl, HBEL.out _ HO4.out⟩
        · have HRES := Lib.hid hres
          clear hleft hF hG hk0 hrn hres
          go_enter Try.func111, Try.ntmps111
          go_wp2_with (first
            | (go_at_call 59; refine (HNW.out _).mono ?_; rintro e w1 ⟨rfl, rfl⟩)
            | (go_at_call 124; have hm := HMI.out; (with_reducible refine hm.mono ?_); clear hm; rintro e w2 ⟨rfl, hc2, ho2⟩; have hk2 := HK.out _ ho2; have HC2 := Lib.hid hc2; have HO2 := Lib.hid ho2; clear hc2 ho2)
            | (go_at_call 61; have hm := pos_any _ _ _ _ _ w2 HC2.out; (with_reducible refine hm.mono ?_); clear hm; rintro e w' ⟨rfl, rfl⟩)
            | (go_at_call 125; have hm := HAH.out w2 HC2.out HO2.out; (with_reducible refine hm.mono ?_); clear hm; rintro e w3 ⟨rfl, hc3, ho3⟩; have hk3 := HK.out _ ho3; have HC3 := Lib.hid hc3; have HO3 := Lib.hid ho3; clear hc3 ho3)
            | (go_at_call 93; have hm := HMA.out w3 HC3.out HO3.out; (with_reducible refine hm.mono ?_); clear hm; rintro e w4 ⟨rfl, hc4, ho4⟩; have hk4 := HK.out _ ho4; have HC4 := Lib.hid hc4; have HO4 := Lib.hid ho4; clear hc4 ho4)
            | (go_at_call 109; have hm := left_any _ _ _ _ _ w4 HC4.out HRN.out HNN.out; (with_reducible refine hm.mono ?_); clear hm; rintro e w' ⟨rfl, rfl⟩)
            | (go_at_call 61; have hm := pos_any _ _ _ _ _ w4 HC4.out; (with_reducible refine hm.mono ?_); clear hm; rintro e w' ⟨rfl, rfl⟩)
            | (go_at_call 127; have hm := HLI.out w4; (with_reducible refine hm.mono ?_); clear hm; rintro e w' ⟨rfl, rfl⟩))
          go_ret3
          exact ⟨by rw [HRES.out]; rfl, HBEL.out _ HO4.out⟩
set_option maxRecDepth 100000 in
set_option maxHeartbeats 4000000 in
theorem parse_point (A : Option Addr) (n c AT q r : Nat) (NEG : Bool) (N1 N2 : Int) (X : Int × Bool × Int) (w : World) (hn : n ≤ 1000000) (hat : AT ≤ q) (hrn : r ≤ n) (hqr : q + 1 ≤ r)
    (hmi : Calls Try.prog 124 #[.agg #[.pointer (some ⟨w.heap.size, 0, none⟩)]] ((w.alloc (.cells #[.slice A n c, .int .i64 0] 105)).alloc (.cells #[.pointer (some ⟨w.heap.size, 0, none⟩)] 126)) fun e w' => e = .returned (.bool NEG) ∧ Cur w' w.heap.size A n c AT ∧ Only w.heap.size ((w.alloc (.cells #[.slice A n c, .int .i64 0] 105)).alloc (.cells #[.pointer (some ⟨w.heap.size, 0, none⟩)] 126)) w')
    (hah : ∀ W, Cur W w.heap.size A n c AT → Only w.heap.size ((w.alloc (.cells #[.slice A n c, .int .i64 0] 105)).alloc (.cells #[.pointer (some ⟨w.heap.size, 0, none⟩)] 126)) W → Calls Try.prog 125 #[.agg #[.pointer (some ⟨w.heap.size, 0, none⟩)]] W fun e w' => e = .returned (.int .i64 N1) ∧ Cur w' w.heap.size A n c q ∧ Only w.heap.size ((w.alloc (.cells #[.slice A n c, .int .i64 0] 105)).alloc (.cells #[.pointer (some ⟨w.heap.size, 0, none⟩)] 126)) w')
    (hma : ∀ W, Cur W w.heap.size A n c q → Only w.heap.size ((w.alloc (.cells #[.slice A n c, .int .i64 0] 105)).alloc (.cells #[.pointer (some ⟨w.heap.size, 0, none⟩)] 126)) W → Calls Try.prog 93 #[.pointer (some ⟨w.heap.size, 0, none⟩), .string ⟨#[46]⟩] W fun e w' => e = .returned (.bool true) ∧ Cur w' w.heap.size A n c (q + 1) ∧ Only w.heap.size ((w.alloc (.cells #[.slice A n c, .int .i64 0] 105)).alloc (.cells #[.pointer (some ⟨w.heap.size, 0, none⟩)] 126)) w')
    (hbh : ∀ W, Cur W w.heap.size A n c (q + 1) → Only w.heap.size ((w.alloc (.cells #[.slice A n c, .int .i64 0] 105)).alloc (.cells #[.pointer (some ⟨w.heap.size, 0, none⟩)] 126)) W → Calls Try.prog 126 #[.agg #[.pointer (some ⟨w.heap.size, 0, none⟩)]] W fun e w' => e = .returned (.int .i64 N2) ∧ Cur w' w.heap.size A n c r ∧ Only w.heap.size ((w.alloc (.cells #[.slice A n c, .int .i64 0] 105)).alloc (.cells #[.pointer (some ⟨w.heap.size, 0, none⟩)] 126)) w')
    (h10 : 0 ≤ N1) (h11 : N1 ≤ 2147483648) (h20 : 0 ≤ N2) (h21 : N2 ≤ 100000)
    (hF : r < n ∨ r = AT + 1 → X = (0, false, 4)) (hG : r = n → r ≠ AT + 1 → X = if 214748364799999 < N1 * 100000 + N2 then (0, false, 5) else (sgZ NEG (N1 * 100000 + N2), false, 0)) :
    Calls Try.prog 111 #[.slice A n c] w fun e w' => e = .returned (tripV X) ∧ Below w.heap.size w w' := by
  have hg1 : w.heap.size < ((w.alloc (.cells #[.slice A n c, .int .i64 0] 105)).alloc (.cells #[.pointer (some ⟨w.heap.size, 0, none⟩)] 126)).heap.size := Nat.lt_trans (size_more _ _) (size_more _ _)
  have hk1 : ∀ W, Only w.heap.size ((w.alloc (.cells #[.slice A n c, .int .i64 0] 105)).alloc (.cells #[.pointer (some ⟨w.heap.size, 0, none⟩)] 126)) W → W.cell? ⟨w.heap.size + 1, 0, none⟩ = some (.pointer (some ⟨w.heap.size, 0, none⟩)) := fun W ho => by
    rw [ho.cell (p := ⟨w.heap.size + 1, 0, none⟩) (by simp) (by simp)]
    simp
  have HBEL : Hid (∀ W, Only w.heap.size ((w.alloc (.cells #[.slice A n c, .int .i64 0] 105)).alloc (.cells #[.pointer (some ⟨w.heap.size, 0, none⟩)] 126)) W → Below w.heap.size w W) := Lib.hid (fun W ho => (((Below.refl _ _).alloc (Nat.le_refl _) _).alloc (Nat.le_of_lt (size_more _ _)) _).trans (ho.below (Nat.le_of_lt hg1)))
  have HK := Lib.hid hk1
  have HNW := Lib.hid (fun W => new_any A n c W)
  have HMI := Lib.hid hmi
  have HAH := Lib.hid hah
  have HMA := Lib.hid hma
  have HBH := Lib.hid hbh
  have HRN := Lib.hid hrn
  have hatb : AT ≤ 1000000 := by omega
  have HNN : Hid (n ≤ 9223372036854775807) := Lib.hid (by omega)
  have HLI := Lib.hid (fun W => fxLimit false W)
  obtain ⟨⟨x1, x2, x3⟩, hx⟩ : ∃ x, X = x := ⟨_, rfl⟩
  rw [hx] at hF hG ⊢
  clear hx hg1 hk1 hmi hah hma hbh
  by_cases hleft : r < n
  · have HRES := Lib.hid (hF (.inl hleft))
    have hli : (0 : Int) < (n : Int) - r := by omega
    clear hF hG hrn
    go_enter Try.func111, Try.ntmps111
    go_wp2_with (first
      | (go_at_call 59; refine (HNW.out _).mono ?_; rintro e w1 ⟨rfl, rfl⟩)
      | (go_at_call 124; have hm := HMI.out; (with_reducible refine hm.mono ?_); clear hm; rintro e w2 ⟨rfl, hc2, ho2⟩; have hk2 := HK.out _ ho2; have HC2 := Lib.hid hc2; have HO2 := Lib.hid ho2; clear hc2 ho2)
      | (go_at_call 61; have hm := pos_any _ _ _ _ _ w2 HC2.out; (with_reducible refine hm.mono ?_); clear hm; rintro e w' ⟨rfl, rfl⟩)
      | (go_at_call 125; have hm := HAH.out w2 HC2.out HO2.out; (with_reducible refine hm.mono ?_); clear hm; rintro e w3 ⟨rfl, hc3, ho3⟩; have hk3 := HK.out _ ho3; have HC3 := Lib.hid hc3; have HO3 := Lib.hid ho3; clear hc3 ho3)
      | (go_at_call 93; have hm := HMA.out w3 HC3.out HO3.out; (with_reducible refine hm.mono ?_); clear hm; rintro e w4 ⟨rfl, hc4, ho4⟩; have hk4 := HK.out _ ho4; have HC4 := Lib.hid hc4; have HO4 := Lib.hid ho4; clear hc4 ho4)
      | (go_at_call 126; have hm := HBH.out w4 HC4.out HO4.out; (with_reducible refine hm.mono ?_); clear hm; rintro e w5 ⟨rfl, hc5, ho5⟩; have hk5 := HK.out _ ho5; have HC5 := Lib.hid hc5; have HO5 := Lib.hid ho5; clear hc5 ho5)
      | (go_at_call 109; have hm := left_any _ _ _ _ _ w5 HC5.out HRN.out HNN.out; (with_reducible refine hm.mono ?_); clear hm; rintro e w' ⟨rfl, rfl⟩)
      | (go_at_call 61; have hm := pos_any _ _ _ _ _ w5 HC5.out; (with_reducible refine hm.mono ?_); clear hm; rintro e w' ⟨rfl, rfl⟩)
      | (go_at_call 127; have hm := HLI.out w5; (with_reducible refine hm.mono ?_); clear hm; rintro e w' ⟨rfl, rfl⟩))
    go_ret3
    exact ⟨by rw [HRES.out]; rfl, HBEL.out _ HO5.out⟩
  · have hli : decide (r < n) = false := decide_eq_false hleft
    by_cases hk0 : r = AT + 1
    · have HRES := Lib.hid (hF (.inr hk0))
      have heq : ((r : Int) == ((AT : Int) + 1)) = true := beq_iff_eq.2 (by omega)
      clear hleft hF hG hk0 hrn
      go_enter Try.func111, Try.ntmps111
      go_wp2_with (first
        | (go_at_call 59; refine (HNW.out _).mono ?_; rintro e w1 ⟨rfl, rfl⟩)
        | (go_at_call 124; have hm := HMI.out; (with_reducible refine hm.mono ?_); clear hm; rintro e w2 ⟨rfl, hc2, ho2⟩; have hk2 := HK.out _ ho2; have HC2 := Lib.hid hc2; have HO2 := Lib.hid ho2; clear hc2 ho2)
        | (go_at_call 61; have hm := pos_any _ _ _ _ _ w2 HC2.out; (with_reducible refine hm.mono ?_); clear hm; rintro e w' ⟨rfl, rfl⟩)
        | (go_at_call 125; have hm := HAH.out w2 HC2.out HO2.out; (with_reducible refine hm.mono ?_); clear hm; rintro e w3 ⟨rfl, hc3, ho3⟩; have hk3 := HK.out _ ho3; have HC3 := Lib.hid hc3; have HO3 := Lib.hid ho3; clear hc3 ho3)
        | (go_at_call 93; have hm := HMA.out w3 HC3.out HO3.out; (with_reducible refine hm.mono ?_); clear hm; rintro e w4 ⟨rfl, hc4, ho4⟩; have hk4 := HK.out _ ho4; have HC4 := Lib.hid hc4; have HO4 := Lib.hid ho4; clear hc4 ho4)
        | (go_at_call 126; have hm := HBH.out w4 HC4.out HO4.out; (with_reducible refine hm.mono ?_); clear hm; rintro e w5 ⟨rfl, hc5, ho5⟩; have hk5 := HK.out _ ho5; have HC5 := Lib.hid hc5; have HO5 := Lib.hid ho5; clear hc5 ho5)
        | (go_at_call 109; have hm := left_any _ _ _ _ _ w5 HC5.out HRN.out HNN.out; (with_reducible refine hm.mono ?_); clear hm; rintro e w' ⟨rfl, rfl⟩)
        | (go_at_call 61; have hm := pos_any _ _ _ _ _ w5 HC5.out; (with_reducible refine hm.mono ?_); clear hm; rintro e w' ⟨rfl, rfl⟩)
        | (go_at_call 127; have hm := HLI.out w5; (with_reducible refine hm.mono ?_); clear hm; rintro e w' ⟨rfl, rfl⟩))
      go_ret3
      exact ⟨by rw [HRES.out]; rfl, HBEL.out _ HO5.out⟩
    · have heq : ((r : Int) == ((AT : Int) + 1)) = false := beq_eq_false_iff_ne.2 (by omega)
      have hres := hG (by omega) hk0
      by_cases hbig : 214748364799999 < N1 * 100000 + N2
      · rw [if_pos hbig] at hres
        have HRES := Lib.hid hres
        clear hleft hF hG hk0 hrn hres
        go_enter Try.func111, Try.ntmps111
        go_wp2_with (first
          | (go_at_call 59; refine (HNW.out _).mono ?_; rintro e w1 ⟨rfl, rfl⟩)
          | (go_at_call 124; have hm := HMI.out; (with_reducible refine hm.mono ?_); clear hm; rintro e w2 ⟨rfl, hc2, ho2⟩; have hk2 := HK.out _ ho2; have HC2 := Lib.hid hc2; have HO2 := Lib.hid ho2; clear hc2 ho2)
          | (go_at_call 61; have hm := pos_any _ _ _ _ _ w2 HC2.out; (with_reducible refine hm.mono ?_); clear hm; rintro e w' ⟨rfl, rfl⟩)
          | (go_at_call 125; have hm := HAH.out w2 HC2.out HO2.out; (with_reducible refine hm.mono ?_); clear hm; rintro e w3 ⟨rfl, hc3, ho3⟩; have hk3 := HK.out _ ho3; have HC3 := Lib.hid hc3; have HO3 := Lib.hid ho3; clear hc3 ho3)
          | (go_at_call 93; have hm := HMA.out w3 HC3.out HO3.out; (with_reducible refine hm.mono ?_); clear hm; rintro e w4 ⟨rfl, hc4, ho4⟩; have hk4 := HK.out _ ho4; have HC4 := Lib.hid hc4; have HO4 := Lib.hid ho4; clear hc4 ho4)
          | (go_at_call 126; have hm := HBH.out w4 HC4.out HO4.out; (with_reducible refine hm.mono ?_); clear hm; rintro e w5 ⟨rfl, hc5, ho5⟩; have hk5 := HK.out _ ho5; have HC5 := Lib.hid hc5; have HO5 := Lib.hid ho5; clear hc5 ho5)
          | (go_at_call 109; have hm := left_any _ _ _ _ _ w5 HC5.out HRN.out HNN.out; (with_reducible refine hm.mono ?_); clear hm; rintro e w' ⟨rfl, rfl⟩)
          | (go_at_call 61; have hm := pos_any _ _ _ _ _ w5 HC5.out; (with_reducible refine hm.mono ?_); clear hm; rintro e w' ⟨rfl, rfl⟩)
          | (go_at_call 127; have hm := HLI.out w5; (with_reducible refine hm.mono ?_); clear hm; rintro e w' ⟨rfl, rfl⟩))
        go_ret3
        exact ⟨by rw [HRES.out]; rfl, HBEL.out _ HO5.out⟩
      · rw [if_neg hbig] at hres
        cases NEG
        · have HRES := Lib.hid hres
          clear hleft hF hG hk0 hrn hres
          go_enter Try.func111, Try.ntmps111
          go_wp2_with (first
            | (go_at_call 59; refine (HNW.out _).mono ?_; rintro e w1 ⟨rfl, rfl⟩)
            | (go_at_call 124; have hm := HMI.out; (with_reducible refine hm.mono ?_); clear hm; rintro e w2 ⟨rfl, hc2, ho2⟩; have hk2 := HK.out _ ho2; have HC2 := Lib.hid hc2; have HO2 := Lib.hid ho2; clear hc2 ho2)
            | (go_at_call 61; have hm := pos_any _ _ _ _ _ w2 HC2.out; (with_reducible refine hm.mono ?_); clear hm; rintro e w' ⟨rfl, rfl⟩)
            | (go_at_call 125; have hm := HAH.out w2 HC2.out HO2.out; (with_reducible refine hm.mono ?_); clear hm; rintro e w3 ⟨rfl, hc3, ho3⟩; have hk3 := HK.out _ ho3; have HC3 := Lib.hid hc3; have HO3 := Lib.hid ho3; clear hc3 ho3)
            | (go_at_call 93; have hm := HMA.out w3 HC3.out HO3.out; (with_reducible refine hm.mono ?_); clear hm; rintro e w4 ⟨rfl, hc4, ho4⟩; have hk4 := HK.out _ ho4; have HC4 := Lib.hid hc4; have HO4 := Lib.hid ho4; clear hc4 ho4)
            | (go_at_call 126; have hm := HBH.out w4 HC4.out HO4.out; (with_reducible refine hm.mono ?_); clear hm; rintro e w5 ⟨rfl, hc5, ho5⟩; have hk5 := HK.out _ ho5; have HC5 := Lib.hid hc5; have HO5 := Lib.hid ho5; clear hc5 ho5)
            | (go_at_call 109; have hm := left_any _ _ _ _ _ w5 HC5.out HRN.out HNN.out; (with_reducible refine hm.mono ?_); clear hm; rintro e w' ⟨rfl, rfl⟩)
            | (go_at_call 61; have hm := pos_any _ _ _ _ _ w5 HC5.out; (with_reducible refine hm.mono ?_); clear hm; rintro e w' ⟨rfl, rfl⟩)
            | (go_at_call 127; have hm := HLI.out w5; (with_reducible refine hm.mono ?_); clear hm; rintro e w' ⟨rfl, rfl⟩))
          go_ret3
          exact ⟨by rw [HRES.out]; rfl, HBEL.out _ HO5.out⟩
        · have HRES := Lib.hid hres
          clear hleft hF hG hk0 hrn hres
          go_enter Try.func111, Try.ntmps111
          go_wp2_with (first
            | (go_at_call 59; refine (HNW.out _).mono ?_; rintro e w1 ⟨rfl, rfl⟩)
            | (go_at_call 124; have hm := HMI.out; (with_reducible refine hm.mono ?_); clear hm; rintro e w2 ⟨rfl, hc2, ho2⟩; have hk2 := HK.out _ ho2; have HC2 := Lib.hid hc2; have HO2 := Lib.hid ho2; clear hc2 ho2)
            | (go_at_call 61; have hm := pos_any _ _ _ _ _ w2 HC2.out; (with_reducible refine hm.mono ?_); clear hm; rintro e w' ⟨rfl, rfl⟩)
            | (go_at_call 125; have hm := HAH.out w2 HC2.out HO2.out; (with_reducible refine hm.mono ?_); clear hm; rintro e w3 ⟨rfl, hc3, ho3⟩; have hk3 := HK.out _ ho3; have HC3 := Lib.hid hc3; have HO3 := Lib.hid ho3; clear hc3 ho3)
            | (go_at_call 93; have hm := HMA.out w3 HC3.out HO3.out; (with_reducible refine hm.mono ?_); clear hm; rintro e w4 ⟨rfl, hc4, ho4⟩; have hk4 := HK.out _ ho4; have HC4 := Lib.hid hc4; have HO4 := Lib.hid ho4; clear hc4 ho4)
            | (go_at_call 126; have hm := HBH.out w4 HC4.out HO4.out; (with_reducible refine hm.mono ?_); clear hm; rintro e w5 ⟨rfl, hc5, ho5⟩; have hk5 := HK.out _ ho5; have HC5 := Lib.hid hc5; have HO5 := Lib.hid ho5; clear hc5 ho5)
            | (go_at_call 109; have hm := left_any _ _ _ _ _ w5 HC5.out HRN.out HNN.out; (with_reducible refine hm.mono ?_); clear hm; rintro e w' ⟨rfl, rfl⟩)
            | (go_at_call 61; have hm := pos_any _ _ _ _ _ w5 HC5.out; (with_reducible refine hm.mono ?_); clear hm; rintro e w' ⟨rfl, rfl⟩)
            | (go_at_call 127; have hm := HLI.out w5; (with_reducible refine hm.mono ?_); clear hm; rintro e w' ⟨rfl, rfl⟩))
          go_ret3
          exact ⟨by rw [HRES.out]; rfl, HBEL.out _ HO5.out⟩
set_option maxRecDepth 100000 in
set_option maxHeartbeats 4000000 in
theorem fxParse (A : Option Addr) (n c : Nat) (zs : List Int) (w : World) (hb : Byt w w.heap.size A n c zs) (hn : n ≤ 1000000) :
    Calls Try.prog 111 #[.slice A n c] w fun e w' => e = .returned (tripV (parseS zs)) ∧ Below w.heap.size w w' := by
  obtain ⟨AT, NEG, s43, s45, h43, h45, hat, hneg, hatn, hps⟩ := parse_at zs hb.rng
  obtain ⟨l, hl⟩ : ∃ l, zs.drop AT = l := ⟨_, rfl⟩
  have hll : l.length = n - AT := by rw [← hl, List.length_drop, hb.len]
  have hlen : AT + l.length = n := by rw [hb.len] at hatn; omega
  rw [hl] at hps
  have hC1 : Cur ((w.alloc (.cells #[.slice A n c, .int .i64 0] 105)).alloc (.cells #[.pointer (some ⟨w.heap.size, 0, none⟩)] 126)) w.heap.size A n c 0 := (Cur.new w).alloc _
  have hB1 : Byt ((w.alloc (.cells #[.slice A n c, .int .i64 0] 105)).alloc (.cells #[.pointer (some ⟨w.heap.size, 0, none⟩)] 126)) w.heap.size A n c zs := (hb.alloc (Nat.le_refl _) _).alloc (Nat.le_of_lt (size_more _ _)) _
  have hg1 : w.heap.size < ((w.alloc (.cells #[.slice A n c, .int .i64 0] 105)).alloc (.cells #[.pointer (some ⟨w.heap.size, 0, none⟩)] 126)).heap.size := Nat.lt_trans (size_more _ _) (size_more _ _)
  have hBW : ∀ W, Only w.heap.size ((w.alloc (.cells #[.slice A n c, .int .i64 0] 105)).alloc (.cells #[.pointer (some ⟨w.heap.size, 0, none⟩)] 126)) W → Byt W w.heap.size A n c zs := fun W ho => hB1.only ho (Nat.le_refl _) (Nat.le_of_lt hg1)
  have hmi := fxMinus w.heap.size n c w.heap.size A zs ((w.alloc (.cells #[.slice A n c, .int .i64 0] 105)).alloc (.cells #[.pointer (some ⟨w.heap.size, 0, none⟩)] 126)) hC1 hB1 (Nat.le_refl _) hn s43 s45 h43 h45 AT hat NEG hneg
  have hdl := dlen_le l
  have hah := fun W (hC : Cur W w.heap.size A n c AT) (ho : Only w.heap.size ((w.alloc (.cells #[.slice A n c, .int .i64 0] 105)).alloc (.cells #[.pointer (some ⟨w.heap.size, 0, none⟩)] 126)) W) => (fxAhead w.heap.size n c AT w.heap.size A zs W hC (hBW W ho) (Nat.le_refl _) hn (by omega) l hl (dlen l) rfl).mono fun e w' ⟨he, hc, h2⟩ => And.intro he (And.intro hc (ho.trans h2))
  obtain ⟨pt, hpt⟩ : ∃ pt, stB zs (AT + dlen l) ⟨#[46]⟩ = pt := ⟨_, rfl⟩
  have hptl : dlen l < l.length → pt = decide (l.getD (dlen l) 0 = 46) := fun h => by
    rw [← hpt, stB_one zs _ 46 hb.rng (by rw [hb.len]; omega), ← hl, getD_drop, hl]; rfl
  have hptn : pt = true → dlen l < l.length := fun h => by
    rcases Nat.lt_or_ge (dlen l) l.length with h1 | h1
    · exact h1
    · rw [← hpt, stB_end zs _ 46 (by rw [hb.len]; omega)] at h; cases h
  have hma := fun W (hC : Cur W w.heap.size A n c (AT + dlen l)) (ho : Only w.heap.size ((w.alloc (.cells #[.slice A n c, .int .i64 0] 105)).alloc (.cells #[.pointer (some ⟨w.heap.size, 0, none⟩)] 126)) W) => (match1 w.heap.size n c (AT + dlen l) w.heap.size A zs 46 W hC (hBW W ho) (by omega) hn pt hpt).mono fun e w' ⟨he, hc, h2⟩ => And.intro he (And.intro hc (ho.trans h2))
  have hbdN := aheadN_bd l (dlen l) (Nat.le_refl _)
  cases pt
  · have hno : dlen l < l.length → l.getD (dlen l) 0 ≠ 46 := fun h h2 => by have := hptl h; rw [decide_eq_true h2] at this; cases this
    refine parse_whole A n c AT (AT + dlen l) NEG (aheadN l (dlen l)) (parseS zs) w hn (by omega) (by omega) hmi hah (fun W hC ho => (hma W hC ho).mono fun e w' ⟨he, hc, h2⟩ => ⟨he, by simpa using hc, h2⟩) hbdN.1 hbdN.2 (fun h => ?_) (fun h h0 => ?_)
    · rw [hps]; exact rest_form NEG l hno (by omega)
    · rw [hps]; exact rest_whole NEG l (by omega) (by omega)
  · have hlt := hptn rfl
    have h46 : l.getD (dlen l) 0 = 46 := by have := hptl hlt; simpa using this.symm
    have hdr : zs.drop (AT + dlen l + 1) = l.drop (dlen l + 1) := by rw [← hl, List.drop_drop, hl, Nat.add_assoc]
    obtain ⟨K, hK⟩ : ∃ K, dlen (l.drop (dlen l + 1)) = K := ⟨_, rfl⟩
    have hKl : K ≤ l.length - (dlen l + 1) := by have := dlen_le (l.drop (dlen l + 1)); rw [hK, List.length_drop] at this; exact this
    have hbd2 := fracN_bd (l.drop (dlen l + 1)) K (by omega)
    have hub := unitA_bd K
    refine parse_point A n c AT (AT + dlen l) (AT + dlen l + 1 + K) NEG (aheadN l (dlen l)) (fracN (l.drop (dlen l + 1)) K) (parseS zs) w hn (by omega) (by omega) (by omega) hmi hah (fun W hC ho => (hma W hC ho).mono fun e w' ⟨he, hc, h2⟩ => ⟨he, by simpa using hc, h2⟩)
      (fun W hC ho => (fxBehind w.heap.size n c (AT + dlen l + 1) w.heap.size A zs W hC (hBW W ho) (Nat.le_refl _) hn (by omega) _ hdr K hK).mono fun e w' ⟨he, hc, h2⟩ => ⟨he, hc, ho.trans h2⟩)
      hbdN.1 hbdN.2 hbd2.1 (by omega) (fun h => ?_) (fun h h0 => ?_)
    · rw [hps]; exact point_form NEG l hlt h46 K hK (by omega)
    · rw [hps]; exact point_whole NEG l hlt h46 K hK (by omega) (by omega)
end
end Go.Proofs.Ytpomkhcobpihmaa
