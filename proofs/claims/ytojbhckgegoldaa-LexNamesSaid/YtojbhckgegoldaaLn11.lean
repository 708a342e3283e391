/- Chapter 11, the project's own: a number, a word. -/
import Derived.Test.YtojbhckgegoldaaLb11
import Derived.Test.YtojbhckgegoldaaFxParse
namespace Go.Proofs.Ytojbhckgegoldaa
open Go.RowKit
set_option linter.unusedVariables false
set_option maxRecDepth 100000

set_option maxHeartbeats 2000000 in
theorem pnumberC (h g n c p B : Nat) (A : Option Addr) (zs : List Int) (w : World) (hx : LX w h g A n c p) (hb : Byt w B A n c zs) (hB : B ≤ g) (hn : n ≤ 1000000) :
    Calls Try.prog 45 #[.pointer (some ⟨h, 0, none⟩)] w (TkP h g A n c ⟨(parseS ((zs.drop p).take (rowZ regB (zs.drop p)))).2.2, if (parseS ((zs.drop p).take (rowZ regB (zs.drop p)))).2.1 = true then 1 else 2, (parseS ((zs.drop p).take (rowZ regB (zs.drop p)))).1, [], p + rowZ regB (zs.drop p)⟩ w) := by
  have hle : p + rowZ regB (zs.drop p) ≤ n := by
    have := rowZ_le regB (zs.drop p)
    rw [List.length_drop, hb.len] at this
    have := hx.pl
    omega
  have hbx := Bx.new w 28 (.int .i64 0) (.int .i64 0) (.int .i64 0) (.slice none 0 0)
  have hb0 : Below w.heap.size w (w.alloc (.cells (tkC 0 0 0 none 0 0) 28)) := (Below.refl w.heap.size w).alloc (Nat.le_refl _) _
  obtain ⟨W0, hW0⟩ : ∃ W0, w.alloc (.cells (tkC 0 0 0 none 0 0) 28) = W0 := ⟨_, rfl⟩
  have hs0 : W0.heap.size = w.heap.size + 1 := by rw [← hW0]; simp
  rw [show w.alloc (.cells #[.int .i64 0, .int .i64 0, .int .i64 0, .slice none 0 0] 28) = W0 from hW0] at hbx
  rw [hW0] at hb0
  have HW0 := Lib.hid (show w.alloc (.cells #[.int .i64 0, .int .i64 0, .int .i64 0, .slice none 0 0] 28) = W0 from hW0)
  have HBX := Lib.hid hbx
  have HB0 := Lib.hid hb0
  have HS0 := Lib.hid hs0
  have HO0 : Hid (Only g w W0) := Lib.hid (Only.of_below hb0 g)
  have hltg := hx.cu.lt
  have hlth := hx.lt
  have HX0 := Lib.hid (hx.below hb0 hlth hltg)
  have HBY0 := Lib.hid (hb.below hb0 (by omega))
  have HLT := Lib.hid (show g < w.heap.size ∧ h < w.heap.size from ⟨hltg, hlth⟩)
  clear hbx hb0 hW0 hs0 hltg hlth
  have HRO := Lib.hid (fun nq => prowC regularF h g n c p B A zs (W0.drewN nq) (HX0.out.drewN nq) (HBY0.out.drewN nq) hn)
  obtain ⟨m, hm⟩ : ∃ m, rowZ regB (zs.drop p) = m := ⟨_, rfl⟩
  rw [hm] at HRO hle ⊢
  have HTK := Lib.hid (fun nq => take_in g n c p m B A zs (W0.drewN nq) (HX0.out.cu.drewN nq) (HBY0.out.drewN nq) hle hn hB)
  have HPA := Lib.hid (fun (A' : Option Addr) (c' : Nat) (W : World) (hW : Byt W W.heap.size A' m c' ((zs.drop p).take m)) => fxParse A' m c' ((zs.drop p).take m) W hW (by omega))
  have HLE := Lib.hid hle
  obtain ⟨⟨N, wh, e⟩, hX⟩ : ∃ X, parseS ((zs.drop p).take m) = X := ⟨_, rfl⟩
  rw [hX] at HPA ⊢
  have k0 := HX0.out.k0
  clear hx hb hm hX hle
  cases wh
  all_goals
    go_enter Try.func45, Try.ntmps45
    go_upto_region 1 with fail
    rw [HW0.out]
    refine wp_region_heldR (fun w' => w'.cell? ⟨h, 0, none⟩ = some (.pointer (some ⟨g, 0, none⟩))) 1000 (by kernel_rfl) k0 (fun hHeld => ?_)
    refine wpAnyR_take 0 rfl (by kernel_rfl) (by kernel_rfl) (by kernel_rfl) (by kernel_rfl) (fun _ _ _ h => h) (by rfl) (v := ?_) ?_ (by assumption) ?_
    rotate_left
    focus
      intro wS hSw
      (try dsimp only at hSw)
      go_simp
      (try simp only [hSw])
      try with_reducible rfl
    intro hHeld
    try simp only [Act.put, List.setIfInBounds_toArray, List.set_cons_zero, List.set_cons_succ]
    refine wpAnyR_take 1 rfl (by kernel_rfl) (by kernel_rfl) (by kernel_rfl) (by kernel_rfl) (fun _ _ _ h => h) (by rfl) (v := ?_) ?_ (by assumption) ?_
    rotate_left
    focus
      intro wS hSw
      (try dsimp only at hSw)
      go_simp
      (try simp only [hSw])
      try with_reducible rfl
    intro hHeld
    try simp only [Act.put, List.setIfInBounds_toArray, List.set_cons_zero, List.set_cons_succ]
    refine wpAnyR_take 2 rfl (by kernel_rfl) (by kernel_rfl) (by kernel_rfl) (by kernel_rfl) (fun _ _ _ h => h) (by rfl) (v := ?_) ?_ (by assumption) ?_
    rotate_left
    focus
      intro wS hSw
      (try dsimp only at hSw)
      go_simp
      (try simp only [hSw])
      try with_reducible rfl
    intro hHeld
    try simp only [Act.put, List.setIfInBounds_toArray, List.set_cons_zero, List.set_cons_succ]
    refine wpAnyR_take 3 rfl (by kernel_rfl) (by kernel_rfl) (by kernel_rfl) (by kernel_rfl) (fun _ _ _ h => h) (by rfl) (v := ?_) ?_ (by assumption) ?_
    rotate_left
    focus
      intro wS hSw
      (try dsimp only at hSw)
      go_simp
      (try simp only [hSw])
      try with_reducible rfl
    intro hHeld
    try simp only [Act.put, List.setIfInBounds_toArray, List.set_cons_zero, List.set_cons_succ]
    refine wpAnyR_take 4 rfl (by kernel_rfl) (by kernel_rfl) (by kernel_rfl) (by kernel_rfl) (fun _ _ _ h => h) (by rfl) (v := ?_) ?_ (by assumption) ?_
    rotate_left
    focus
      intro wS hSw
      (try dsimp only at hSw)
      go_simp
      (try simp only [hSw])
      try with_reducible rfl
    intro hHeld
    try simp only [Act.put, List.setIfInBounds_toArray, List.set_cons_zero, List.set_cons_succ]
    refine wpAnyR_step 5 rfl (by kernel_rfl) (fun K hK => ?_)
    go_simp
    go_at_call 57
    refine (HRO.out 1).mono ?_
    rintro e w3 ⟨rfl, q3, rfl⟩
    refine hK.out _ _ (k0) (fun hHeld => ?_)
    clear hK K
    try simp only [Act.put, List.setIfInBounds_toArray, List.set_cons_zero, List.set_cons_succ]
    refine wpAnyR_step 6 rfl (by kernel_rfl) (fun K hK => ?_)
    go_simp
    go_at_call 59
    refine (HTK.out (1 + q3)).mono ?_
    rintro e w4 ⟨A4, c4, rfl, hby4, hfr4, hc4, ho4⟩
    have HX4 := Lib.hid ((HX0.out.drewN (1 + q3)).moved hc4 ho4 HLE.out)
    have HO4 := Lib.hid ((HO0.out.drewN (1 + q3)).trans ho4)
    have HBX4 := Lib.hid ((HBX.out.drewN (1 + q3)).only ho4 (by have := HLT.out.1; omega))
    have HBY4 := Lib.hid hby4
    clear hby4 hfr4 hc4 ho4
    refine hK.out _ _ (HX4.out.k0) (fun hHeld => ?_)
    clear hK K
    try simp only [Act.put, List.setIfInBounds_toArray, List.set_cons_zero, List.set_cons_succ]
    refine wpAnyR_take 7 rfl (by kernel_rfl) (by kernel_rfl) (by kernel_rfl) (by kernel_rfl) (fun _ _ _ h => h) (by rfl) (v := ?_) ?_ (by assumption) ?_
    rotate_left
    focus
      intro wS hSw
      (try dsimp only at hSw)
      go_simp
      (try simp only [hSw])
      try with_reducible rfl
    intro hHeld
    try simp only [Act.put, List.setIfInBounds_toArray, List.set_cons_zero, List.set_cons_succ]
    refine wpAnyR_take 8 rfl (by kernel_rfl) (by kernel_rfl) (by kernel_rfl) (by kernel_rfl) (fun _ _ _ h => h) (by rfl) (v := ?_) ?_ (by assumption) ?_
    rotate_left
    focus
      intro wS hSw
      (try dsimp only at hSw)
      go_simp
      (try simp only [hSw])
      try with_reducible rfl
    intro hHeld
    try simp only [Act.put, List.setIfInBounds_toArray, List.set_cons_zero, List.set_cons_succ]
    refine wpAnyR_take 9 rfl (by kernel_rfl) (by kernel_rfl) (by kernel_rfl) (by kernel_rfl) (fun _ _ _ h => h) (by rfl) (v := ?_) ?_ (by assumption) ?_
    rotate_left
    focus
      intro wS hSw
      (try dsimp only at hSw)
      go_simp
      (try simp only [hSw])
      try with_reducible rfl
    intro hHeld
    try simp only [Act.put, List.setIfInBounds_toArray, List.set_cons_zero, List.set_cons_succ]
    refine wpAnyR_take 10 rfl (by kernel_rfl) (by kernel_rfl) (by kernel_rfl) (by kernel_rfl) (fun _ _ _ h => h) (by rfl) (v := ?_) ?_ (by assumption) ?_
    rotate_left
    focus
      intro wS hSw
      (try dsimp only at hSw)
      go_simp
      (try simp only [hSw])
      try with_reducible rfl
    intro hHeld
    try simp only [Act.put, List.setIfInBounds_toArray, List.set_cons_zero, List.set_cons_succ]
    refine wpAnyR_take 11 rfl (by kernel_rfl) (by kernel_rfl) (by kernel_rfl) (by kernel_rfl) (fun _ _ _ h => h) (by rfl) (v := ?_) ?_ (by assumption) ?_
    rotate_left
    focus
      intro wS hSw
      (try dsimp only at hSw)
      go_simp
      (try simp only [hSw])
      try with_reducible rfl
    intro hHeld
    try simp only [Act.put, List.setIfInBounds_toArray, List.set_cons_zero, List.set_cons_succ]
    refine wpAnyR_done (by kernel_rfl) ?_
    refine NoPanic.normal ?_
    go_wp2_with (go_at_call 60; refine (HPA.out A4 c4 w4 HBY4.out).mono ?_; (rintro e w5 ⟨rfl, hb5⟩); have HX5 := Lib.hid (HX4.out.below hb5 HX4.out.lt HX4.out.cu.lt); have HO5 := Lib.hid (HO4.out.trans (Only.of_below hb5 g)); have HBX5 := Lib.hid (HBX4.out.below hb5 HBX4.out.lt); have k0 := HBX5.out.c0; have k1 := HBX5.out.c1; have k2 := HBX5.out.c2; have k3 := HBX5.out.c3; have kf := HBX5.out.fr; clear hb5)
    refine bodyPost_ret (results_cell_row_tmp rfl _ _ w.heap.size 28 _ (0, 0) _ rfl HBX5.out.set4_ Try.underlying28 rfl (by kernel_rfl) _ rfl) rfl ?_
    have hl := HLT.out
    exact ⟨_, _, _, _, _, _, _, rfl, HX5.out.set4_ (by omega) (by omega), HO5.out.set4_ (Nat.le_refl _), fun _ => ⟨rfl, rfl, rfl, Byt.none_ _ _, fun h0 => absurd h0 (by omega)⟩⟩

set_option maxHeartbeats 2000000 in
theorem pwordC (h g n c p B : Nat) (A : Option Addr) (zs : List Int) (w : World) (hx : LX w h g A n c p) (hb : Byt w B A n c zs) (hB : B ≤ g) (hn : n ≤ 1000000) :
    Calls Try.prog 46 #[.pointer (some ⟨h, 0, none⟩)] w (TkP h g A n c (if 127 < rowZ regB (zs.drop p) then ⟨3, 0, 0, [], p⟩ else ⟨0, 9, 0, (zs.drop p).take (rowZ regB (zs.drop p)), p + rowZ regB (zs.drop p)⟩) w) := by
  have hle : p + rowZ regB (zs.drop p) ≤ n := by
    have := rowZ_le regB (zs.drop p)
    rw [List.length_drop, hb.len] at this
    have := hx.pl
    omega
  have hbx := Bx.new w 28 (.int .i64 0) (.int .i64 0) (.int .i64 0) (.slice none 0 0)
  have hb0 : Below w.heap.size w (w.alloc (.cells (tkC 0 0 0 none 0 0) 28)) := (Below.refl w.heap.size w).alloc (Nat.le_refl _) _
  obtain ⟨W0, hW0⟩ : ∃ W0, w.alloc (.cells (tkC 0 0 0 none 0 0) 28) = W0 := ⟨_, rfl⟩
  have hs0 : W0.heap.size = w.heap.size + 1 := by rw [← hW0]; simp
  rw [show w.alloc (.cells #[.int .i64 0, .int .i64 0, .int .i64 0, .slice none 0 0] 28) = W0 from hW0] at hbx
  rw [hW0] at hb0
  have HW0 := Lib.hid (show w.alloc (.cells #[.int .i64 0, .int .i64 0, .int .i64 0, .slice none 0 0] 28) = W0 from hW0)
  have HBX := Lib.hid hbx
  have HB0 := Lib.hid hb0
  have HS0 := Lib.hid hs0
  have HO0 : Hid (Only g w W0) := Lib.hid (Only.of_below hb0 g)
  have hltg := hx.cu.lt
  have hlth := hx.lt
  have HX0 := Lib.hid (hx.below hb0 hlth hltg)
  have HBY0 := Lib.hid (hb.below hb0 (by omega))
  have HLT := Lib.hid (show g < w.heap.size ∧ h < w.heap.size from ⟨hltg, hlth⟩)
  clear hbx hb0 hW0 hs0 hltg hlth
  have HRO := Lib.hid (fun nq => prowC regularF h g n c p B A zs (W0.drewN nq) (HX0.out.drewN nq) (HBY0.out.drewN nq) hn)
  obtain ⟨m, hm⟩ : ∃ m, rowZ regB (zs.drop p) = m := ⟨_, rfl⟩
  rw [hm] at HRO hle ⊢
  have HTK := Lib.hid (fun nq => take_in g n c p m B A zs (W0.drewN nq) (HX0.out.cu.drewN nq) (HBY0.out.drewN nq) hle hn hB)
  have HLE := Lib.hid hle
  have k0 := HX0.out.k0
  clear hx hb hm hle
  by_cases hbig : 127 < m
  all_goals
    first
      | rw [if_pos hbig]
      | rw [if_neg hbig]
    have hbig2 : decide ((m : Int) > 127) = decide (127 < m) := decide_eq_decide.2 (by omega)
    simp only [hbig, decide_true, decide_false] at hbig2
    clear hbig
    go_enter Try.func46, Try.ntmps46
    go_upto_region 1 with fail
    rw [HW0.out]
    refine wp_region_heldR (fun w' => w'.cell? ⟨h, 0, none⟩ = some (.pointer (some ⟨g, 0, none⟩))) 1000 (by kernel_rfl) k0 (fun hHeld => ?_)
    refine wpAnyR_take 0 rfl (by kernel_rfl) (by kernel_rfl) (by kernel_rfl) (by kernel_rfl) (fun _ _ _ h => h) (by rfl) (v := ?_) ?_ (by assumption) ?_
    rotate_left
    focus
      intro wS hSw
      (try dsimp only at hSw)
      go_simp
      (try simp only [hSw])
      try with_reducible rfl
    intro hHeld
    try simp only [Act.put, List.setIfInBounds_toArray, List.set_cons_zero, List.set_cons_succ]
    refine wpAnyR_take 1 rfl (by kernel_rfl) (by kernel_rfl) (by kernel_rfl) (by kernel_rfl) (fun _ _ _ h => h) (by rfl) (v := ?_) ?_ (by assumption) ?_
    rotate_left
    focus
      intro wS hSw
      (try dsimp only at hSw)
      go_simp
      (try simp only [hSw])
      try with_reducible rfl
    intro hHeld
    try simp only [Act.put, List.setIfInBounds_toArray, List.set_cons_zero, List.set_cons_succ]
    refine wpAnyR_take 2 rfl (by kernel_rfl) (by kernel_rfl) (by kernel_rfl) (by kernel_rfl) (fun _ _ _ h => h) (by rfl) (v := ?_) ?_ (by assumption) ?_
    rotate_left
    focus
      intro wS hSw
      (try dsimp only at hSw)
      go_simp
      (try simp only [hSw])
      try with_reducible rfl
    intro hHeld
    try simp only [Act.put, List.setIfInBounds_toArray, List.set_cons_zero, List.set_cons_succ]
    refine wpAnyR_take 3 rfl (by kernel_rfl) (by kernel_rfl) (by kernel_rfl) (by kernel_rfl) (fun _ _ _ h => h) (by rfl) (v := ?_) ?_ (by assumption) ?_
    rotate_left
    focus
      intro wS hSw
      (try dsimp only at hSw)
      go_simp
      (try simp only [hSw])
      try with_reducible rfl
    intro hHeld
    try simp only [Act.put, List.setIfInBounds_toArray, List.set_cons_zero, List.set_cons_succ]
    refine wpAnyR_take 4 rfl (by kernel_rfl) (by kernel_rfl) (by kernel_rfl) (by kernel_rfl) (fun _ _ _ h => h) (by rfl) (v := ?_) ?_ (by assumption) ?_
    rotate_left
    focus
      intro wS hSw
      (try dsimp only at hSw)
      go_simp
      (try simp only [hSw])
      try with_reducible rfl
    intro hHeld
    try simp only [Act.put, List.setIfInBounds_toArray, List.set_cons_zero, List.set_cons_succ]
    refine wpAnyR_step 5 rfl (by kernel_rfl) (fun K hK => ?_)
    go_simp
    go_at_call 57
    refine (HRO.out 1).mono ?_
    rintro e w3 ⟨rfl, q3, rfl⟩
    refine hK.out _ _ (k0) (fun hHeld => ?_)
    clear hK K
    try simp only [Act.put, List.setIfInBounds_toArray, List.set_cons_zero, List.set_cons_succ]
    refine wpAnyR_step 6 rfl (by kernel_rfl) (fun K hK => ?_)
    go_simp
    go_at_call 59
    refine (HTK.out (1 + q3)).mono ?_
    rintro e w4 ⟨A4, c4, rfl, hby4, hfr4, hc4, ho4⟩
    have HX4 := Lib.hid ((HX0.out.drewN (1 + q3)).moved hc4 ho4 HLE.out)
    have HO4 := Lib.hid ((HO0.out.drewN (1 + q3)).trans ho4)
    have HBX4 := Lib.hid ((HBX.out.drewN (1 + q3)).only ho4 (by have := HLT.out.1; omega))
    have HBY4 := Lib.hid hby4
    have HFR4 : Hid (From (w.heap.size + 1) A4 m) := Lib.hid (by rw [← HS0.out]; exact hfr4)
    clear hby4 hfr4 hc4 ho4
    refine hK.out _ _ (HX4.out.k0) (fun hHeld => ?_)
    clear hK K
    try simp only [Act.put, List.setIfInBounds_toArray, List.set_cons_zero, List.set_cons_succ]
    refine wpAnyR_take 7 rfl (by kernel_rfl) (by kernel_rfl) (by kernel_rfl) (by kernel_rfl) (fun _ _ _ h => h) (by rfl) (v := ?_) ?_ (by assumption) ?_
    rotate_left
    focus
      intro wS hSw
      (try dsimp only at hSw)
      go_simp
      (try simp only [hSw])
      try with_reducible rfl
    intro hHeld
    try simp only [Act.put, List.setIfInBounds_toArray, List.set_cons_zero, List.set_cons_succ]
    refine wpAnyR_take 8 rfl (by kernel_rfl) (by kernel_rfl) (by kernel_rfl) (by kernel_rfl) (fun _ _ _ h => h) (by rfl) (v := ?_) ?_ (by assumption) ?_
    rotate_left
    focus
      intro wS hSw
      (try dsimp only at hSw)
      go_simp
      (try simp only [hSw])
      try with_reducible rfl
    intro hHeld
    try simp only [Act.put, List.setIfInBounds_toArray, List.set_cons_zero, List.set_cons_succ]
    refine wpAnyR_take 9 rfl (by kernel_rfl) (by kernel_rfl) (by kernel_rfl) (by kernel_rfl) (fun _ _ _ h => h) (by rfl) (v := ?_) ?_ (by assumption) ?_
    rotate_left
    focus
      intro wS hSw
      (try dsimp only at hSw)
      go_simp
      (try simp only [hSw])
      try with_reducible rfl
    intro hHeld
    try simp only [Act.put, List.setIfInBounds_toArray, List.set_cons_zero, List.set_cons_succ]
    refine wpAnyR_take 10 rfl (by kernel_rfl) (by kernel_rfl) (by kernel_rfl) (by kernel_rfl) (fun _ _ _ h => h) (by rfl) (v := ?_) ?_ (by assumption) ?_
    rotate_left
    focus
      intro wS hSw
      (try dsimp only at hSw)
      go_simp
      (try simp only [hSw])
      try with_reducible rfl
    intro hHeld
    try simp only [Act.put, List.setIfInBounds_toArray, List.set_cons_zero, List.set_cons_succ]
    refine wpAnyR_take 11 rfl (by kernel_rfl) (by kernel_rfl) (by kernel_rfl) (by kernel_rfl) (fun _ _ _ h => h) (by rfl) (v := ?_) ?_ (by assumption) ?_
    rotate_left
    focus
      intro wS hSw
      (try dsimp only at hSw)
      go_simp
      (try simp only [hSw])
      try with_reducible rfl
    intro hHeld
    try simp only [Act.put, List.setIfInBounds_toArray, List.set_cons_zero, List.set_cons_succ]
    refine wpAnyR_done (by kernel_rfl) ?_
    refine NoPanic.normal ?_
    have k0 := HBX4.out.c0
    have k1 := HBX4.out.c1
    have k2 := HBX4.out.c2
    have k3 := HBX4.out.c3
    have kf := HBX4.out.fr
    go_wp2_with fail
    refine bodyPost_ret (results_cell_row_tmp rfl _ _ w.heap.size 28 _ (0, 0) _ rfl HBX4.out.set4_ Try.underlying28 rfl (by kernel_rfl) _ rfl) rfl ?_
    have hl := HLT.out
    first
      | exact ⟨_, _, _, _, _, _, _, rfl, HX4.out.set4_ (by omega) (by omega), HO4.out.set4_ (Nat.le_refl _), fun h0 => absurd (show (3 : Int) = 0 from h0) (by decide)⟩
      | exact ⟨_, _, _, _, _, _, _, rfl, HX4.out.set4_ (by omega) (by omega), HO4.out.set4_ (Nat.le_refl _), fun _ => ⟨rfl, rfl, rfl, by rw [size_set4]; exact HBY4.out.set4_ HFR4.out (Nat.lt_succ_self _), fun h0 b o e => by have := HFR4.out h0 b o e; omega⟩⟩
end Go.Proofs.Ytojbhckgegoldaa
