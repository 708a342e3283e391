/- Contracts of functions that the law calls, and what they lean on (a part). -/
import Derived.Test.YtpomkhcobpihmaaBla15
import Derived.Test.YtpomkhcobpihmaaBla20
namespace Go.Proofs.Ytpomkhcobpihmaa
section
open Go.RowKit
set_option linter.unusedVariables false
set_option maxRecDepth 100000
set_option maxHeartbeats 2000000 in
theorem pnumberC (h g n c p B : Nat) (A : Option Addr) (zs : List Int) (w : World) (hx : LX w h g A n c p) (hb : Byt w B A n c zs) (hB : B ≤ g) (hn : n ≤ 1000000) :
    Calls Try.prog 90 #[.pointer (some ⟨h, 0, none⟩)] w (TkP h g A n c ⟨(parseS ((zs.drop p).take (rowZ regB (zs.drop p)))).2.2, if (parseS ((zs.drop p).take (rowZ regB (zs.drop p)))).2.1 = true then 1 else 2, (parseS ((zs.drop p).take (rowZ regB (zs.drop p)))).1, [], p + rowZ regB (zs.drop p)⟩ w) := by
  have hle : p + rowZ regB (zs.drop p) ≤ n := by
    have := rowZ_le regB (zs.drop p)
    rw [List.length_drop, hb.len] at this
    have := hx.pl
    omega
  have hbx := Bx.new w 56 (.int .i64 0) (.int .i64 0) (.int .i64 0) (.slice none 0 0)
  have hb0 : Below w.heap.size w (w.alloc (.cells (tkC 0 0 0 none 0 0) 56)) := (Below.refl w.heap.size w).alloc (Nat.le_refl _) _
  obtain ⟨W0, hW0⟩ : ∃ W0, w.alloc (.cells (tkC 0 0 0 none 0 0) 56) = W0 := ⟨_, rfl⟩
  have hs0 : W0.heap.size = w.heap.size + 1 := by rw [← hW0]; simp
  rw [show w.alloc (.cells #[.int .i64 0, .int .i64 0, .int .i64 0, .slice none 0 0] 56) = W0 from hW0] at hbx
  rw [hW0] at hb0
  have HW0 := Lib.hid (show w.alloc (.cells #[.int .i64 0, .int .i64 0, .int .i64 0, .slice none 0 0] 56) = W0 from hW0)
  have HBX := Lib.hid hbx
  have HB0 := Lib.hid hb0
  have HS0 := Lib.hid hs0
  have HO0 : Hid (Only g w W0) := Lib.hid (Only.of_below hb0 g)
  have hltg := hx.cu.lt
  have hlth := hx.lt
  have HX0 := Lib.hid (hx.below hb0 hlth hltg)
  have HBY0 := Lib.hid (hb.below hb0 (by omega))
  have HLT := Lib.hid (show g < w.heap.size ∧ h < w.heap.size from ⟨hltg, hlth⟩)
  clear hbx hb0 hW0 hs0 hltg hlth
  have HRO := Lib.hid (fun nq => prowC regularF h g n c p B A zs (W0.drewN nq) (HX0.out.drewN nq) (HBY0.out.drewN nq) hn)
  obtain ⟨m, hm⟩ : ∃ m, rowZ regB (zs.drop p) = m := ⟨_, rfl⟩
  rw [hm] at HRO hle ⊢
  have HTK := Lib.hid (fun nq => take_in g n c p m B A zs (W0.drewN nq) (HX0.out.cu.drewN nq) (HBY0.out.drewN nq) hle hn hB)
  have HPA := Lib.hid (fun (A' : Option Addr) (c' : Nat) (W : World) (hW : Byt W W.heap.size A' m c' ((zs.drop p).take m)) => fxParse A' m c' ((zs.drop p).take m) W hW (by omega))
  have HLE := Lib.hid hle
  obtain ⟨⟨N, wh, e⟩, hX⟩ : ∃ X, parseS ((zs.drop p).take m) = X := ⟨_, rfl⟩
  rw [hX] at HPA ⊢
  have k0 := HX0.out.k0
  clear hx hb hm hX hle
  cases wh
  all_goals
    go_enter Try.func90, Try.ntmps90
    go_upto_region 1 with fail
    rw [HW0.out]
    refine wp_region_heldR (fun w' => w'.cell? ⟨h, 0, none⟩ = some (.pointer (some ⟨g, 0, none⟩))) 1000 (by kernel_rfl) k0 (fun hHeld => ?_)
    refine wpAnyR_take 0 rfl (by kernel_rfl) (by kernel_rfl) (by kernel_rfl) (by kernel_rfl) (fun _ _ _ h => h) (by rfl) (v := ?_) ?_ (by assumption) ?_
    rotate_left
    focus
      intro wS hSw
      (try dsimp only at hSw)
      go_simp
      (try simp only [hSw])
      try with_reducible rfl
    intro hHeld
    try simp only [Act.put, List.setIfInBounds_toArray, List.set_cons_zero, List.set_cons_succ]
    refine wpAnyR_take 1 rfl (by kernel_rfl) (by kernel_rfl) (by kernel_rfl) (by kernel_rfl) (fun _ _ _ h => h) (by rfl) (v := ?_) ?_ (by assumption) ?_
    rotate_left
    focus
      intro wS hSw
      (try dsimp only at hSw)
      go_simp
      (try simp only [hSw])
      try with_reducible rfl
    intro hHeld
    try simp only [Act.put, List.setIfInBounds_toArray, List.set_cons_zero, List.set_cons_succ]
    refine wpAnyR_take 2 rfl (by kernel_rfl) (by kernel_rfl) (by kernel_rfl) (by kernel_rfl) (fun _ _ _ h => h) (by rfl) (v := ?_) ?_ (by assumption) ?_
    rotate_left
    focus
      intro wS hSw
      (try dsimp only at hSw)
      go_simp
      (try simp only [hSw])
      try with_reducible rfl
    intro hHeld
    try simp only [Act.put, List.setIfInBounds_toArray, List.set_cons_zero, List.set_cons_succ]
    refine wpAnyR_take 3 rfl (by kernel_rfl) (by kernel_rfl) (by kernel_rfl) (by kernel_rfl) (fun _ _ _ h => h) (by rfl) (v := ?_) ?_ (by assumption) ?_
    rotate_left
    focus
      intro wS hSw
      (try dsimp only at hSw)
      go_simp
      (try simp only [hSw])
      try with_reducible rfl
    intro hHeld
    try simp only [Act.put, List.setIfInBounds_toArray, List.set_cons_zero, List.set_cons_succ]
    refine wpAnyR_take 4 rfl (by kernel_rfl) (by kernel_rfl) (by kernel_rfl) (by kernel_rfl) (fun _ _ _ h => h) (by rfl) (v := ?_) ?_ (by assumption) ?_
    rotate_left
    focus
      intro wS hSw
      (try dsimp only at hSw)
      go_simp
      (try simp only [hSw])
      try with_reducible rfl
    intro hHeld
    try simp only [Act.put, List.setIfInBounds_toArray, List.set_cons_zero, List.set_cons_succ]
    refine wpAnyR_step 5 rfl (by kernel_rfl) (fun K hK => ?_)
    go_simp
    go_at_call 108
    refine (HRO.out 1).mono ?_
    rintro e w3 ⟨rfl, q3, rfl⟩
    refine hK.out _ _ (k0) (fun hHeld => ?_)
    clear hK K
    try simp only [Act.put, List.setIfInBounds_toArray, List.set_cons_zero, List.set_cons_succ]
    refine wpAnyR_step 6 rfl (by kernel_rfl) (fun K hK => ?_)
    go_simp
    go_at_call 110
    refine (HTK.out (1 + q3)).mono ?_
    rintro e w4 ⟨A4, c4, rfl, hby4, hfr4, hc4, ho4⟩
    have HX4 := Lib.hid ((HX0.out.drewN (1 + q3)).moved hc4 ho4 HLE.out)
    have HO4 := Lib.hid ((HO0.out.drewN (1 + q3)).trans ho4)
    have HBX4 := Lib.hid ((HBX.out.drewN (1 + q3)).only ho4 (by have := HLT.out.1; omega))
    have HBY4 := Lib.hid hby4
    clear hby4 hfr4 hc4 ho4
    refine hK.out _ _ (HX4.out.k0) (fun hHeld => ?_)
    clear hK K
    try simp only [Act.put, List.setIfInBounds_toArray, List.set_cons_zero, List.set_cons_succ]
    refine wpAnyR_take 7 rfl (by kernel_rfl) (by kernel_rfl) (by kernel_rfl) (by kernel_rfl) (fun _ _ _ h => h) (by rfl) (v := ?_) ?_ (by assumption) ?_
    rotate_left
    focus
      intro wS hSw
      (try dsimp only at hSw)
      go_simp
      (try simp only [hSw])
      try with_reducible rfl
    intro hHeld
    try simp only [Act.put, List.setIfInBounds_toArray, List.set_cons_zero, List.set_cons_succ]
    refine wpAnyR_take 8 rfl (by kernel_rfl) (by kernel_rfl) (by kernel_rfl) (by kernel_rfl) (fun _ _ _ h => h) (by rfl) (v := ?_) ?_ (by assumption) ?_
    rotate_left
    focus
      intro wS hSw
      (try dsimp only at hSw)
      go_simp
      (try simp only [hSw])
      try with_reducible rfl
    intro hHeld
    try simp only [Act.put, List.setIfInBounds_toArray, List.set_cons_zero, List.set_cons_succ]
    refine wpAnyR_take 9 rfl (by kernel_rfl) (by kernel_rfl) (by kernel_rfl) (by kernel_rfl) (fun _ _ _ h => h) (by rfl) (v := ?_) ?_ (by assumption) ?_
    rotate_left
    focus
      intro wS hSw
      (try dsimp only at hSw)
      go_simp
      (try simp only [hSw])
      try with_reducible rfl
    intro hHeld
    try simp only [Act.put, List.setIfInBounds_toArray, List.set_cons_zero, List.set_cons_succ]
    refine wpAnyR_take 10 rfl (by kernel_rfl) (by kernel_rfl) (by kernel_rfl) (by kernel_rfl) (fun _ _ _ h => h) (by rfl) (v := ?_) ?_ (by assumption) ?_
    rotate_left
    focus
      intro wS hSw
      (try dsimp only at hSw)
      go_simp
      (try simp only [hSw])
      try with_reducible rfl
    intro hHeld
    try simp only [Act.put, List.setIfInBounds_toArray, List.set_cons_zero, List.set_cons_succ]
    refine wpAnyR_take 11 rfl (by kernel_rfl) (by kernel_rfl) (by kernel_rfl) (by kernel_rfl) (fun _ _ _ h => h) (by rfl) (v := ?_) ?_ (by assumption) ?_
    rotate_left
    focus
      intro wS hSw
      (try dsimp only at hSw)
      go_simp
      (try simp only [hSw])
      try with_reducible rfl
    intro hHeld
    try simp only [Act.put, List.setIfInBounds_toArray, List.set_cons_zero, List.set_cons_succ]
    refine wpAnyR_done (by kernel_rfl) ?_
    refine NoPanic.normal ?_
    go_wp2_with (go_at_call 111; refine (HPA.out A4 c4 w4 HBY4.out).mono ?_; (rintro e w5 ⟨rfl, hb5⟩); have HX5 := Lib.hid (HX4.out.below hb5 HX4.out.lt HX4.out.cu.lt); have HO5 := Lib.hid (HO4.out.trans (Only.of_below hb5 g)); have HBX5 := Lib.hid (HBX4.out.below hb5 HBX4.out.lt); have k0 := HBX5.out.c0; have k1 := HBX5.out.c1; have k2 := HBX5.out.c2; have k3 := HBX5.out.c3; have kf := HBX5.out.fr; clear hb5)
    refine bodyPost_ret (results_cell_row_tmp rfl _ _ w.heap.size 56 _ (0, 0) _ rfl HBX5.out.set4_ Try.underlying56 rfl (by kernel_rfl) _ rfl) rfl ?_
    have hl := HLT.out
    exact ⟨_, _, _, _, _, _, _, rfl, HX5.out.set4_ (by omega) (by omega), HO5.out.set4_ (Nat.le_refl _), fun _ => ⟨rfl, rfl, rfl, Byt.none_ _ _, fun h0 => absurd h0 (by omega)⟩⟩
set_option maxHeartbeats 2000000 in
theorem pwordC (h g n c p B : Nat) (A : Option Addr) (zs : List Int) (w : World) (hx : LX w h g A n c p) (hb : Byt w B A n c zs) (hB : B ≤ g) (hn : n ≤ 1000000) :
    Calls Try.prog 92 #[.pointer (some ⟨h, 0, none⟩)] w (TkP h g A n c (if 127 < rowZ regB (zs.drop p) then ⟨3, 0, 0, [], p⟩ else ⟨0, 9, 0, (zs.drop p).take (rowZ regB (zs.drop p)), p + rowZ regB (zs.drop p)⟩) w) := by
  have hle : p + rowZ regB (zs.drop p) ≤ n := by
    have := rowZ_le regB (zs.drop p)
    rw [List.length_drop, hb.len] at this
    have := hx.pl
    omega
  have hbx := Bx.new w 56 (.int .i64 0) (.int .i64 0) (.int .i64 0) (.slice none 0 0)
  have hb0 : Below w.heap.size w (w.alloc (.cells (tkC 0 0 0 none 0 0) 56)) := (Below.refl w.heap.size w).alloc (Nat.le_refl _) _
  obtain ⟨W0, hW0⟩ : ∃ W0, w.alloc (.cells (tkC 0 0 0 none 0 0) 56) = W0 := ⟨_, rfl⟩
  have hs0 : W0.heap.size = w.heap.size + 1 := by rw [← hW0]; simp
  rw [show w.alloc (.cells #[.int .i64 0, .int .i64 0, .int .i64 0, .slice none 0 0] 56) = W0 from hW0] at hbx
  rw [hW0] at hb0
  have HW0 := Lib.hid (show w.alloc (.cells #[.int .i64 0, .int .i64 0, .int .i64 0, .slice none 0 0] 56) = W0 from hW0)
  have HBX := Lib.hid hbx
  have HB0 := Lib.hid hb0
  have HS0 := Lib.hid hs0
  have HO0 : Hid (Only g w W0) := Lib.hid (Only.of_below hb0 g)
  have hltg := hx.cu.lt
  have hlth := hx.lt
  have HX0 := Lib.hid (hx.below hb0 hlth hltg)
  have HBY0 := Lib.hid (hb.below hb0 (by omega))
  have HLT := Lib.hid (show g < w.heap.size ∧ h < w.heap.size from ⟨hltg, hlth⟩)
  clear hbx hb0 hW0 hs0 hltg hlth
  have HRO := Lib.hid (fun nq => prowC regularF h g n c p B A zs (W0.drewN nq) (HX0.out.drewN nq) (HBY0.out.drewN nq) hn)
  obtain ⟨m, hm⟩ : ∃ m, rowZ regB (zs.drop p) = m := ⟨_, rfl⟩
  rw [hm] at HRO hle ⊢
  have HTK := Lib.hid (fun nq => take_in g n c p m B A zs (W0.drewN nq) (HX0.out.cu.drewN nq) (HBY0.out.drewN nq) hle hn hB)
  have HLE := Lib.hid hle
  have k0 := HX0.out.k0
  clear hx hb hm hle
  by_cases hbig : 127 < m
  all_goals
    first
      | rw [if_pos hbig]
      | rw [if_neg hbig]
    have hbig2 : decide ((m : Int) > 127) = decide (127 < m) := decide_eq_decide.2 (by omega)
    simp only [hbig, decide_true, decide_false] at hbig2
    clear hbig
    go_enter Try.func92, Try.ntmps92
    go_upto_region 1 with fail
    rw [HW0.out]
    refine wp_region_heldR (fun w' => w'.cell? ⟨h, 0, none⟩ = some (.pointer (some ⟨g, 0, none⟩))) 1000 (by kernel_rfl) k0 (fun hHeld => ?_)
    refine wpAnyR_take 0 rfl (by kernel_rfl) (by kernel_rfl) (by kernel_rfl) (by kernel_rfl) (fun _ _ _ h => h) (by rfl) (v := ?_) ?_ (by assumption) ?_
    rotate_left
    focus
      intro wS hSw
      (try dsimp only at hSw)
      go_simp
      (try simp only [hSw])
      try with_reducible rfl
    intro hHeld
    try simp only [Act.put, List.setIfInBounds_toArray, List.set_cons_zero, List.set_cons_succ]
    refine wpAnyR_take 1 rfl (by kernel_rfl) (by kernel_rfl) (by kernel_rfl) (by kernel_rfl) (fun _ _ _ h => h) (by rfl) (v := ?_) ?_ (by assumption) ?_
    rotate_left
    focus
      intro wS hSw
      (try dsimp only at hSw)
      go_simp
      (try simp only [hSw])
      try with_reducible rfl
    intro hHeld
    try simp only [Act.put, List.setIfInBounds_toArray, List.set_cons_zero, List.set_cons_succ]
    refine wpAnyR_take 2 rfl (by kernel_rfl) (by kernel_rfl) (by kernel_rfl) (by kernel_rfl) (fun _ _ _ h => h) (by rfl) (v := ?_) ?_ (by assumption) ?_
    rotate_left
    focus
      intro wS hSw
      (try dsimp only at hSw)
      go_simp
      (try simp only [hSw])
      try with_reducible rfl
    intro hHeld
    try simp only [Act.put, List.setIfInBounds_toArray, List.set_cons_zero, List.set_cons_succ]
    refine wpAnyR_take 3 rfl (by kernel_rfl) (by kernel_rfl) (by kernel_rfl) (by kernel_rfl) (fun _ _ _ h => h) (by rfl) (v := ?_) ?_ (by assumption) ?_
    rotate_left
    focus
      intro wS hSw
      (try dsimp only at hSw)
      go_simp
      (try simp only [hSw])
      try with_reducible rfl
    intro hHeld
    try simp only [Act.put, List.setIfInBounds_toArray, List.set_cons_zero, List.set_cons_succ]
    refine wpAnyR_take 4 rfl (by kernel_rfl) (by kernel_rfl) (by kernel_rfl) (by kernel_rfl) (fun _ _ _ h => h) (by rfl) (v := ?_) ?_ (by assumption) ?_
    rotate_left
    focus
      intro wS hSw
      (try dsimp only at hSw)
      go_simp
      (try simp only [hSw])
      try with_reducible rfl
    intro hHeld
    try simp only [Act.put, List.setIfInBounds_toArray, List.set_cons_zero, List.set_cons_succ]
    refine wpAnyR_step 5 rfl (by kernel_rfl) (fun K hK => ?_)
    go_simp
    go_at_call 108
    refine (HRO.out 1).mono ?_
    rintro e w3 ⟨rfl, q3, rfl⟩
    refine hK.out _ _ (k0) (fun hHeld => ?_)
    clear hK K
    try simp only [Act.put, List.setIfInBounds_toArray, List.set_cons_zero, List.set_cons_succ]
    refine wpAnyR_step 6 rfl (by kernel_rfl) (fun K hK => ?_)
    go_simp
    go_at_call 110
    refine (HTK.out (1 + q3)).mono ?_
    rintro e w4 ⟨A4, c4, rfl, hby4, hfr4, hc4, ho4⟩
    have HX4 := Lib.hid ((HX0.out.drewN (1 + q3)).moved hc4 ho4 HLE.out)
    have HO4 := Lib.hid ((HO0.out.drewN (1 + q3)).trans ho4)
    have HBX4 := Lib.hid ((HBX.out.drewN (1 + q3)).only ho4 (by have := HLT.out.1; omega))
    have HBY4 := Lib.hid hby4
    have HFR4 : Hid (From (w.heap.size + 1) A4 m) := Lib.hid (by rw [← HS0.out]; exact hfr4)
    clear hby4 hfr4 hc4 ho4
    refine hK.out _ _ (HX4.out.k0) (fun hHeld => ?_)
    clear hK K
    try simp only [Act.put, List.setIfInBounds_toArray, List.set_cons_zero, List.set_cons_succ]
    refine wpAnyR_take 7 rfl (by kernel_rfl) (by kernel_rfl) (by kernel_rfl) (by kernel_rfl) (fun _ _ _ h => h) (by rfl) (v := ?_) ?_ (by assumption) ?_
    rotate_left
    focus
      intro wS hSw
      (try dsimp only at hSw)
      go_simp
      (try simp only [hSw])
      try with_reducible rfl
    intro hHeld
    try simp only [Act.put, List.setIfInBounds_toArray, List.set_cons_zero, List.set_cons_succ]
    refine wpAnyR_take 8 rfl (by kernel_rfl) (by kernel_rfl) (by kernel_rfl) (by kernel_rfl) (fun _ _ _ h => h) (by rfl) (v := ?_) ?_ (by assumption) ?_
    rotate_left
    focus
      intro wS hSw
      (try dsimp only at hSw)
      go_simp
      (try simp only [hSw])
      try with_reducible rfl
    intro hHeld
    try simp only [Act.put, List.setIfInBounds_toArray, List.set_cons_zero, List.set_cons_succ]
    refine wpAnyR_take 9 rfl (by kernel_rfl) (by kernel_rfl) (by kernel_rfl) (by kernel_rfl) (fun _ _ _ h => h) (by rfl) (v := ?_) ?_ (by assumption) ?_
    rotate_left
    focus
      intro wS hSw
      (try dsimp only at hSw)
      go_simp
      (try simp only [hSw])
      try with_reducible rfl
    intro hHeld
    try simp only [Act.put, List.setIfInBounds_toArray, List.set_cons_zero, List.set_cons_succ]
    refine wpAnyR_take 10 rfl (by kernel_rfl) (by kernel_rfl) (by kernel_rfl) (by kernel_rfl) (fun _ _ _ h => h) (by rfl) (v := ?_) ?_ (by assumption) ?_
    rotate_left
    focus
      intro wS hSw
      (try dsimp only at hSw)
      go_simp
      (try simp only [hSw])
      try with_reducible rfl
    intro hHeld
    try simp only [Act.put, List.setIfInBounds_toArray, List.set_cons_zero, List.set_cons_succ]
    refine wpAnyR_take 11 rfl (by kernel_rfl) (by kernel_rfl) (by kernel_rfl) (by kernel_rfl) (fun _ _ _ h => h) (by rfl) (v := ?_) ?_ (by assumption) ?_
    rotate_left
    focus
      intro wS hSw
      (try dsimp only at hSw)
      go_simp
      (try simp only [hSw])
      try with_reducible rfl
    intro hHeld
    try simp only [Act.put, List.setIfInBounds_toArray, List.set_cons_zero, List.set_cons_succ]
    refine wpAnyR_done (by kernel_rfl) ?_
    refine NoPanic.normal ?_
    have k0 := HBX4.out.c0
    have k1 := HBX4.out.c1
    have k2 := HBX4.out.c2
    have k3 := HBX4.out.c3
    have kf := HBX4.out.fr
    go_wp2_with fail
    refine bodyPost_ret (results_cell_row_tmp rfl _ _ w.heap.size 56 _ (0, 0) _ rfl HBX4.out.set4_ Try.underlying56 rfl (by kernel_rfl) _ rfl) rfl ?_
    have hl := HLT.out
    first
      | exact ⟨_, _, _, _, _, _, _, rfl, HX4.out.set4_ (by omega) (by omega), HO4.out.set4_ (Nat.le_refl _), fun h0 => absurd (show (3 : Int) = 0 from h0) (by decide)⟩
      | exact ⟨_, _, _, _, _, _, _, rfl, HX4.out.set4_ (by omega) (by omega), HO4.out.set4_ (Nat.le_refl _), fun _ => ⟨rfl, rfl, rfl, by rw [size_set4]; exact HBY4.out.set4_ HFR4.out (Nat.lt_succ_self _), fun h0 b o e => by have := HFR4.out h0 b o e; omega⟩⟩
end

section
open Go.RowKit
set_option linter.unusedVariables false
set_option maxRecDepth 100000
theorem lxm_no (h g n c p B : Nat) (A : Option Addr) (zs : List Int) (s : ByteArray) (w : World) (hx : LX w h g A n c p) (hb : Byt w B A n c zs) (hn : n ≤ 1000000) (hs : s.size ≤ 1000000) (hst : stB zs p s = false) :
    Calls Try.prog 93 #[.pointer (some ⟨g, 0, none⟩), .string s] w fun e w' => e = .returned (.bool false) ∧ ∃ k, w' = w.drewN k := by
  have hpl := hx.pl
  by_cases h1 : p + s.size ≤ n
  · exact match_diff g n c p B A zs s w hx.cu hb hn h1 hst
  · exact match_no g n c p A zs s w hx.cu hb.len hpl hn (by omega) (by omega)
theorem lxm_yes (h g n c p B : Nat) (A : Option Addr) (zs : List Int) (s : ByteArray) (w : World) (hx : LX w h g A n c p) (hb : Byt w B A n c zs) (hn : n ≤ 1000000) (k : Nat) (hs : s.size = k) (hst : stB zs p s = true) :
    Calls Try.prog 93 #[.pointer (some ⟨g, 0, none⟩), .string s] w fun e w' => e = .returned (.bool true) ∧ LX w' h g A n c (p + k) ∧ Only g w w' := by
  subst hs
  have h1 : p + s.size ≤ n := by
    rcases Nat.lt_or_ge n (p + s.size) with h | h
    · rw [stB_no zs p s (by rw [hb.len]; exact h)] at hst; cases hst
    · exact h
  refine (match_yes g n c p B A zs s w hx.cu hb hn h1 hst).mono ?_
  rintro e w' ⟨rfl, hc, ho⟩
  exact ⟨rfl, hx.moved hc ho h1, ho⟩
theorem st2_peek (zs : List Int) (p : Nat) (a b : UInt8) (hr : ∀ z ∈ zs, 0 ≤ z ∧ z < 256) : stB zs p ⟨#[a, b]⟩ = decide (peekZ zs (p : Int) = (a.toNat : Int) ∧ peekZ zs ((p + 1 : Nat) : Int) = (b.toNat : Int)) := by
  have hs : (⟨#[a, b]⟩ : ByteArray).size = 2 := rfl
  rcases Nat.lt_or_ge (p + 1) zs.length with hq | hq
  · rw [stB_yes zs p _ (by rw [hs]; omega), hs]
    have e : (zs.drop p).take 2 = [peekZ zs (p : Int), peekZ zs ((p + 1 : Nat) : Int)] := by rw [drop_peek zs p (by omega), drop_peek zs (p + 1) hq]; rfl
    have b1 := peekZ_in zs p (by omega)
    have b2 := peekZ_in zs (p + 1) hq
    have r1 := hr _ (List.getElem_mem (show p < zs.length by omega))
    have r2 := hr _ (List.getElem_mem hq)
    rw [getD_eq zs p (by omega)] at b1
    rw [getD_eq zs (p + 1) hq] at b2
    rw [e]
    obtain ⟨x, hx⟩ : ∃ x, peekZ zs (p : Int) = x := ⟨_, rfl⟩
    obtain ⟨y, hy⟩ : ∃ y, peekZ zs ((p + 1 : Nat) : Int) = y := ⟨_, rfl⟩
    rw [hx, hy]
    rw [hx] at b1
    rw [hy] at b2
    rw [← b1] at r1
    rw [← b2] at r2
    rw [ByteArray.toList_eq, ByteArray.toList_eq]
    show ([UInt8.ofNat x.toNat, UInt8.ofNat y.toNat] == [a, b]) = _
    have hh : ∀ (z : Int) (c : UInt8), 0 ≤ z → z < 256 → (UInt8.ofNat z.toNat = c ↔ z = (c.toNat : Int)) := fun z c h0 h1 => by
      constructor
      · intro he
        have h2 := congrArg UInt8.toNat he
        simp at h2
        omega
      · intro he
        subst he
        simp
    by_cases h1 : x = (a.toNat : Int) ∧ y = (b.toNat : Int)
    · rw [decide_eq_true h1, (hh x a r1.1 r1.2).2 h1.1, (hh y b r2.1 r2.2).2 h1.2]
      simp
    · rw [decide_eq_false h1]
      refine beq_eq_false_iff_ne.2 fun he => h1 ?_
      injection he with he1 he2
      injection he2 with he2 _
      exact ⟨(hh x a r1.1 r1.2).1 he1, (hh y b r2.1 r2.2).1 he2⟩
  · rw [stB_no zs p _ (by rw [hs]; omega), decide_eq_false]
    rintro ⟨_, h2⟩
    rw [peekZ_nat zs (p + 1) hq] at h2
    omega
set_option maxHeartbeats 8000000 in
theorem ptokenC (h g n c p B : Nat) (A : Option Addr) (zs : List Int) (w : World) (hx : LX w h g A n c p) (hb : Byt w B A n c zs) (hB : B ≤ g) (hn : n ≤ 900000) :
    Calls Try.prog 62 #[.pointer (some ⟨h, 0, none⟩)] w (TkP h g A n c (tokZ zs p) w) := by
  have HBW := Lib.hid hb
  have hrg := hb.rng
  have hlen := hb.len
  have hbx := Bx.new w 56 (.int .i64 0) (.int .i64 0) (.int .i64 0) (.slice none 0 0)
  have hb0 : Below w.heap.size w (w.alloc (.cells (tkC 0 0 0 none 0 0) 56)) := (Below.refl w.heap.size w).alloc (Nat.le_refl _) _
  obtain ⟨W0, hW0⟩ : ∃ W0, w.alloc (.cells (tkC 0 0 0 none 0 0) 56) = W0 := ⟨_, rfl⟩
  have hs0 : W0.heap.size = w.heap.size + 1 := by rw [← hW0]; simp
  rw [show w.alloc (.cells #[.int .i64 0, .int .i64 0, .int .i64 0, .slice none 0 0] 56) = W0 from hW0] at hbx
  rw [hW0] at hb0
  have HW0 := Lib.hid (show w.alloc (.cells #[.int .i64 0, .int .i64 0, .int .i64 0, .slice none 0 0] 56) = W0 from hW0)
  have HBX := Lib.hid hbx
  have HB0 := Lib.hid hb0
  have HS0 := Lib.hid hs0
  have HO0 : Hid (Only g w W0) := Lib.hid (Only.of_below hb0 g)
  have hltg := hx.cu.lt
  have hlth := hx.lt
  have HX0 := Lib.hid (hx.below hb0 hlth hltg)
  have HBY0 := Lib.hid (hb.below hb0 (by omega))
  have HLT := Lib.hid (show g < w.heap.size ∧ h < w.heap.size from ⟨hltg, hlth⟩)
  clear hbx hb0 hW0 hs0 hltg hlth
  have HGW := Lib.hid (show g ≤ W0.heap.size by have := HS0.out; have := HLT.out; omega)
  have HPK := Lib.hid (peek_any g n c p B A zs 0 W0 HX0.out.cu HBY0.out HX0.out.pl (by omega))
  have HB1 := Lib.hid (fun W (ho : Only g W0 W) => HBY0.out.only ho hB HGW.out)
  have HXN := Lib.hid (fun W (ho : Only g W0 W) q (hW : LX W h g A n c q) => pnumberC h g n c q B A zs W hW (HB1.out W ho) hB (by omega))
  have HXW := Lib.hid (fun W (ho : Only g W0 W) q (hW : LX W h g A n c q) => pwordC h g n c q B A zs W hW (HB1.out W ho) hB (by omega))
  have HXM := Lib.hid (fun W (ho : Only g W0 W) q (hW : LX W h g A n c q) => pnameC h g n c q B A zs W hW (HB1.out W ho) hB (by omega))
  have HXT := Lib.hid (fun W (ho : Only g W0 W) q (hW : LX W h g A n c q) => ptextC h g n c q B A zs W hW (HB1.out W ho) hB (by omega))
  have HXD := Lib.hid (fun W (ho : Only g W0 W) q (hW : LX W h g A n c q) => pdigitsC h g n c q B A zs W hW (HB1.out W ho) hB (by omega))
  have HMN := Lib.hid (fun (s : ByteArray) (hs : s.size ≤ 1000000) (hst : stB zs p s = false) W (ho : Only g W0 W) (hW : LX W h g A n c p) => (lxm_no h g n c p B A zs s W hW (HB1.out W ho) (by omega) hs hst).mono (R' := fun e w' => e = .returned (.bool false) ∧ LX w' h g A n c p ∧ Only g W w') (fun _ _ ⟨h1, k, h2⟩ => ⟨h1, by rw [h2]; exact hW.drewN k, by rw [h2]; exact (Only.refl g W).drewN k⟩))
  have HMY := Lib.hid (fun (s : ByteArray) (k : Nat) (hs : s.size = k) (hst : stB zs p s = true) W (ho : Only g W0 W) (hW : LX W h g A n c p) => lxm_yes h g n c p B A zs s W hW (HB1.out W ho) (by omega) k hs hst)
  have HS1 := Lib.hid (fun s => st1_peek zs p s hrg)
  have HS2 := Lib.hid (fun a b => st2_peek zs p a b hrg)
  rw [Int.add_zero] at HPK
  have hbd := peekZ_bd zs hrg (p : Int)
  have hlt0 : ¬ 0 ≤ peekZ zs (p : Int) → peekZ zs (p : Int) = -1 := fun h0 => by omega
  obtain ⟨y, hy⟩ : ∃ y, peekZ zs (p : Int) = y := ⟨_, rfl⟩
  obtain ⟨y2, hy2⟩ : ∃ y, peekZ zs ((p + 1 : Nat) : Int) = y := ⟨_, rfl⟩
  rw [hy] at HPK hbd
  have HNU := Lib.hid (fun W => pnumericC y W)
  have HRG := Lib.hid (fun W => pregC y W)
  have HY := Lib.hid hy
  have HY2 := Lib.hid hy2
  have k0 := HX0.out.k0
  clear hx hb hrg hlen hlt0
  by_cases hneg : y < 0
  · obtain rfl : y = -1 := by omega
    clear hneg
    have hT : tokZ zs p = ⟨0, 0, 0, [], p⟩ := by
      rw [tokZ, hy, if_pos (by decide)]
    rw [hT]
    clear hT hy hy2 hbd
    go_enter Try.func62, Try.ntmps62
    go_upto_region 1 with fail
    rw [HW0.out]
    go_wp2_with (first
      | (go_at_call 87; refine HPK.out.mono ?_; (rintro e w2 ⟨rfl, q2, rfl⟩); have HX := Lib.hid (HX0.out.drewN q2); have HO := Lib.hid ((Only.refl g W0).drewN q2); have HBX := Lib.hid (HBX.out.only HO.out (by have := HLT.out; omega)); have kb0 := HBX.out.c0; have kb1 := HBX.out.c1; have kb2 := HBX.out.c2; have kb3 := HBX.out.c3; have kbf := HBX.out.fr))
    refine bodyPost_ret (results_cell_row_tmp rfl _ _ w.heap.size 56 _ (0, 0) _ rfl HBX.out.set4_ Try.underlying56 rfl (by kernel_rfl) _ rfl) rfl ?_
    have hl := HLT.out
    exact ⟨_, _, _, _, _, _, _, rfl, HX.out.set4_ (by omega) (by omega), (HO0.out.trans HO.out).set4_ (Nat.le_refl _), fun _ => ⟨rfl, rfl, rfl, Byt.none_ _ _, fun h0 => absurd h0 (by omega)⟩⟩
  · have hnegb : decide (y < 0) = false := decide_eq_false hneg
    rcases hnm : nmB y with _ | _
    · rw [hnm] at HNU
      rcases hrg : regB y with _ | _
      · rw [hrg] at HRG
        obtain rfl | rfl | ⟨rfl, h62⟩ | ⟨rfl, h62⟩ | rfl | rfl | ⟨rfl, h62⟩ | ⟨hA, hBq⟩ : y = 91 ∨ y = 93 ∨ (y = 60 ∧ y2 = 60) ∨ (y = 62 ∧ y2 = 62) ∨ y = 47 ∨ y = 40 ∨ (y = 60 ∧ y2 ≠ 60) ∨ ((y ≠ 91 ∧ y ≠ 93 ∧ y ≠ 60 ∧ y ≠ 47 ∧ y ≠ 40) ∧ ¬ (y = 62 ∧ y2 = 62)) := by omega
        · clear hnm hrg hneg
          have hT : tokZ zs p = ⟨0, 5, 0, [], p + 1⟩ := by
            rw [tokZ, hy, if_neg (by decide), if_neg (by decide), if_neg (by decide), if_pos rfl]
          have HY91 := Lib.hid (fun W ho hW => HMY.out ⟨#[91]⟩ 1 rfl (by rw [HS1.out, HY.out]; rfl) W ho hW)
          rw [hT]
          clear hT hy hy2 hbd
          go_enter Try.func62, Try.ntmps62
          go_upto_region 1 with fail
          rw [HW0.out]
          go_wp2_with (first
            | (go_at_call 87; refine HPK.out.mono ?_; (rintro e w2 ⟨rfl, q2, rfl⟩); have HX := Lib.hid (HX0.out.drewN q2); have HO := Lib.hid ((Only.refl g W0).drewN q2))
            | (go_at_call 89; refine (HNU.out _).mono ?_; (rintro e w7 ⟨rfl, rfl⟩))
            | (go_at_call 91; refine (HRG.out _).mono ?_; (rintro e w7 ⟨rfl, rfl⟩))
            | (go_at_call 93; (with_reducible refine (HY91.out _ HO.out HX.out).mono ?_); (rintro e w4 ⟨rfl, hx4, ho4⟩); have HX := Lib.hid hx4; have HO := Lib.hid (HO.out.trans ho4); have k0 := HX.out.k0; clear hx4 ho4; have HBX := Lib.hid (HBX.out.only HO.out (by have := HLT.out; omega)); have kb0 := HBX.out.c0; have kb1 := HBX.out.c1; have kb2 := HBX.out.c2; have kb3 := HBX.out.c3; have kbf := HBX.out.fr))
          refine bodyPost_ret (results_cell_row_tmp rfl _ _ w.heap.size 56 _ (0, 0) _ rfl HBX.out.set4_ Try.underlying56 rfl (by kernel_rfl) _ rfl) rfl ?_
          have hl := HLT.out
          exact ⟨_, _, _, _, _, _, _, rfl, HX.out.set4_ (by omega) (by omega), (HO0.out.trans HO.out).set4_ (Nat.le_refl _), fun _ => ⟨rfl, rfl, rfl, Byt.none_ _ _, fun h0 => absurd h0 (by omega)⟩⟩
        · clear hnm hrg hneg
          have hT : tokZ zs p = ⟨0, 6, 0, [], p + 1⟩ := by
            rw [tokZ, hy, if_neg (by decide), if_neg (by decide), if_neg (by decide), if_neg (by decide), if_pos rfl]
          have HN91 := Lib.hid (fun W ho hW => HMN.out ⟨#[91]⟩ (by decide) (by rw [HS1.out, HY.out]; rfl) W ho hW)
          have HY93 := Lib.hid (fun W ho hW => HMY.out ⟨#[93]⟩ 1 rfl (by rw [HS1.out, HY.out]; rfl) W ho hW)
          rw [hT]
          clear hT hy hy2 hbd
          go_enter Try.func62, Try.ntmps62
          go_upto_region 1 with fail
          rw [HW0.out]
          go_wp2_with (first
            | (go_at_call 87; refine HPK.out.mono ?_; (rintro e w2 ⟨rfl, q2, rfl⟩); have HX := Lib.hid (HX0.out.drewN q2); have HO := Lib.hid ((Only.refl g W0).drewN q2))
            | (go_at_call 89; refine (HNU.out _).mono ?_; (rintro e w7 ⟨rfl, rfl⟩))
            | (go_at_call 91; refine (HRG.out _).mono ?_; (rintro e w7 ⟨rfl, rfl⟩))
            | (go_at_call 93; (with_reducible refine (HN91.out _ HO.out HX.out).mono ?_); (rintro e w3 ⟨rfl, hx3, ho3⟩); have HX := Lib.hid hx3; have HO := Lib.hid (HO.out.trans ho3); have k0 := HX.out.k0; clear hx3 ho3)
            | (go_at_call 93; (with_reducible refine (HY93.out _ HO.out HX.out).mono ?_); (rintro e w4 ⟨rfl, hx4, ho4⟩); have HX := Lib.hid hx4; have HO := Lib.hid (HO.out.trans ho4); have k0 := HX.out.k0; clear hx4 ho4; have HBX := Lib.hid (HBX.out.only HO.out (by have := HLT.out; omega)); have kb0 := HBX.out.c0; have kb1 := HBX.out.c1; have kb2 := HBX.out.c2; have kb3 := HBX.out.c3; have kbf := HBX.out.fr))
          refine bodyPost_ret (results_cell_row_tmp rfl _ _ w.heap.size 56 _ (0, 0) _ rfl HBX.out.set4_ Try.underlying56 rfl (by kernel_rfl) _ rfl) rfl ?_
          have hl := HLT.out
          exact ⟨_, _, _, _, _, _, _, rfl, HX.out.set4_ (by omega) (by omega), (HO0.out.trans HO.out).set4_ (Nat.le_refl _), fun _ => ⟨rfl, rfl, rfl, Byt.none_ _ _, fun h0 => absurd h0 (by omega)⟩⟩
        · clear hnm hrg hneg
          subst h62
          have hT : tokZ zs p = ⟨0, 7, 0, [], p + 2⟩ := by
            rw [tokZ, hy, hy2, if_neg (by decide), if_neg (by decide), if_neg (by decide), if_neg (by decide), if_neg (by decide), if_pos ⟨rfl, rfl⟩]
          have HN91 := Lib.hid (fun W ho hW => HMN.out ⟨#[91]⟩ (by decide) (by rw [HS1.out, HY.out]; rfl) W ho hW)
          have HN93 := Lib.hid (fun W ho hW => HMN.out ⟨#[93]⟩ (by decide) (by rw [HS1.out, HY.out]; rfl) W ho hW)
          have HY6060 := Lib.hid (fun W ho hW => HMY.out ⟨#[60, 60]⟩ 2 rfl (by rw [HS2.out, HY.out, HY2.out]; exact decide_eq_true ⟨rfl, rfl⟩) W ho hW)
          rw [hT]
          clear hT hy hy2 hbd
          go_enter Try.func62, Try.ntmps62
          go_upto_region 1 with fail
          rw [HW0.out]
          go_wp2_with (first
            | (go_at_call 87; refine HPK.out.mono ?_; (rintro e w2 ⟨rfl, q2, rfl⟩); have HX := Lib.hid (HX0.out.drewN q2); have HO := Lib.hid ((Only.refl g W0).drewN q2))
            | (go_at_call 89; refine (HNU.out _).mono ?_; (rintro e w7 ⟨rfl, rfl⟩))
            | (go_at_call 91; refine (HRG.out _).mono ?_; (rintro e w7 ⟨rfl, rfl⟩))
            | (go_at_call 93; (with_reducible refine (HN91.out _ HO.out HX.out).mono ?_); (rintro e w3 ⟨rfl, hx3, ho3⟩); have HX := Lib.hid hx3; have HO := Lib.hid (HO.out.trans ho3); have k0 := HX.out.k0; clear hx3 ho3)
            | (go_at_call 93; (with_reducible refine (HN93.out _ HO.out HX.out).mono ?_); (rintro e w3 ⟨rfl, hx3, ho3⟩); have HX := Lib.hid hx3; have HO := Lib.hid (HO.out.trans ho3); have k0 := HX.out.k0; clear hx3 ho3)
            | (go_at_call 93; (with_reducible refine (HY6060.out _ HO.out HX.out).mono ?_); (rintro e w4 ⟨rfl, hx4, ho4⟩); have HX := Lib.hid hx4; have HO := Lib.hid (HO.out.trans ho4); have k0 := HX.out.k0; clear hx4 ho4; have HBX := Lib.hid (HBX.out.only HO.out (by have := HLT.out; omega)); have kb0 := HBX.out.c0; have kb1 := HBX.out.c1; have kb2 := HBX.out.c2; have kb3 := HBX.out.c3; have kbf := HBX.out.fr))
          refine bodyPost_ret (results_cell_row_tmp rfl _ _ w.heap.size 56 _ (0, 0) _ rfl HBX.out.set4_ Try.underlying56 rfl (by kernel_rfl) _ rfl) rfl ?_
          have hl := HLT.out
          exact ⟨_, _, _, _, _, _, _, rfl, HX.out.set4_ (by omega) (by omega), (HO0.out.trans HO.out).set4_ (Nat.le_refl _), fun _ => ⟨rfl, rfl, rfl, Byt.none_ _ _, fun h0 => absurd h0 (by omega)⟩⟩
        · clear hnm hrg hneg
          subst h62
          have hT : tokZ zs p = ⟨0, 8, 0, [], p + 2⟩ := by
            rw [tokZ, hy, hy2, if_neg (by decide), if_neg (by decide), if_neg (by decide), if_neg (by decide), if_neg (by decide), if_neg (by decide), if_pos ⟨rfl, rfl⟩]
          have HN91 := Lib.hid (fun W ho hW => HMN.out ⟨#[91]⟩ (by decide) (by rw [HS1.out, HY.out]; rfl) W ho hW)
          have HN93 := Lib.hid (fun W ho hW => HMN.out ⟨#[93]⟩ (by decide) (by rw [HS1.out, HY.out]; rfl) W ho hW)
          have HN6060 := Lib.hid (fun W ho hW => HMN.out ⟨#[60, 60]⟩ (by decide) (by rw [HS2.out, HY.out, HY2.out]; exact decide_eq_false (fun e => absurd e.1 (by decide))) W ho hW)
          have HY6262 := Lib.hid (fun W ho hW => HMY.out ⟨#[62, 62]⟩ 2 rfl (by rw [HS2.out, HY.out, HY2.out]; exact decide_eq_true ⟨rfl, rfl⟩) W ho hW)
          rw [hT]
          clear hT hy hy2 hbd
          go_enter Try.func62, Try.ntmps62
          go_upto_region 1 with fail
          rw [HW0.out]
          go_wp2_with (first
            | (go_at_call 87; refine HPK.out.mono ?_; (rintro e w2 ⟨rfl, q2, rfl⟩); have HX := Lib.hid (HX0.out.drewN q2); have HO := Lib.hid ((Only.refl g W0).drewN q2))
            | (go_at_call 89; refine (HNU.out _).mono ?_; (rintro e w7 ⟨rfl, rfl⟩))
            | (go_at_call 91; refine (HRG.out _).mono ?_; (rintro e w7 ⟨rfl, rfl⟩))
            | (go_at_call 93; (with_reducible refine (HN91.out _ HO.out HX.out).mono ?_); (rintro e w3 ⟨rfl, hx3, ho3⟩); have HX := Lib.hid hx3; have HO := Lib.hid (HO.out.trans ho3); have k0 := HX.out.k0; clear hx3 ho3)
            | (go_at_call 93; (with_reducible refine (HN93.out _ HO.out HX.out).mono ?_); (rintro e w3 ⟨rfl, hx3, ho3⟩); have HX := Lib.hid hx3; have HO := Lib.hid (HO.out.trans ho3); have k0 := HX.out.k0; clear hx3 ho3)
            | (go_at_call 93; (with_reducible refine (HN6060.out _ HO.out HX.out).mono ?_); (rintro e w3 ⟨rfl, hx3, ho3⟩); have HX := Lib.hid hx3; have HO := Lib.hid (HO.out.trans ho3); have k0 := HX.out.k0; clear hx3 ho3)
            | (go_at_call 93; (with_reducible refine (HY6262.out _ HO.out HX.out).mono ?_); (rintro e w4 ⟨rfl, hx4, ho4⟩); have HX := Lib.hid hx4; have HO := Lib.hid (HO.out.trans ho4); have k0 := HX.out.k0; clear hx4 ho4; have HBX := Lib.hid (HBX.out.only HO.out (by have := HLT.out; omega)); have kb0 := HBX.out.c0; have kb1 := HBX.out.c1; have kb2 := HBX.out.c2; have kb3 := HBX.out.c3; have kbf := HBX.out.fr))
          refine bodyPost_ret (results_cell_row_tmp rfl _ _ w.heap.size 56 _ (0, 0) _ rfl HBX.out.set4_ Try.underlying56 rfl (by kernel_rfl) _ rfl) rfl ?_
          have hl := HLT.out
          exact ⟨_, _, _, _, _, _, _, rfl, HX.out.set4_ (by omega) (by omega), (HO0.out.trans HO.out).set4_ (Nat.le_refl _), fun _ => ⟨rfl, rfl, rfl, Byt.none_ _ _, fun h0 => absurd h0 (by omega)⟩⟩
        · clear hnm hrg hneg
          have hT : tokZ zs p = ⟨(nameF zs (zs.length + 1) (p + 1) []).1, 4, 0, (nameF zs (zs.length + 1) (p + 1) []).2.1, (nameF zs (zs.length + 1) (p + 1) []).2.2⟩ := by
            rw [tokZ, hy, if_neg (by decide), if_neg (by decide), if_neg (by decide), if_neg (by decide), if_neg (by decide), if_neg (fun e => absurd e.1 (by decide)), if_neg (fun e => absurd e.1 (by decide)), if_pos rfl]
          have HN91 := Lib.hid (fun W ho hW => HMN.out ⟨#[91]⟩ (by decide) (by rw [HS1.out, HY.out]; rfl) W ho hW)
          have HN93 := Lib.hid (fun W ho hW => HMN.out ⟨#[93]⟩ (by decide) (by rw [HS1.out, HY.out]; rfl) W ho hW)
          have HN6060 := Lib.hid (fun W ho hW => HMN.out ⟨#[60, 60]⟩ (by decide) (by rw [HS2.out, HY.out, HY2.out]; exact decide_eq_false (fun e => absurd e.1 (by decide))) W ho hW)
          have HN6262 := Lib.hid (fun W ho hW => HMN.out ⟨#[62, 62]⟩ (by decide) (by rw [HS2.out, HY.out, HY2.out]; exact decide_eq_false (fun e => absurd e.1 (by decide))) W ho hW)
          have HY47 := Lib.hid (fun W ho hW => HMY.out ⟨#[47]⟩ 1 rfl (by rw [HS1.out, HY.out]; rfl) W ho hW)
          rw [hT]
          clear hT hy hy2 hbd
          go_enter Try.func62, Try.ntmps62
          go_upto_region 1 with fail
          rw [HW0.out]
          go_wp2_with (first
            | (go_at_call 87; refine HPK.out.mono ?_; (rintro e w2 ⟨rfl, q2, rfl⟩); have HX := Lib.hid (HX0.out.drewN q2); have HO := Lib.hid ((Only.refl g W0).drewN q2))
            | (go_at_call 89; refine (HNU.out _).mono ?_; (rintro e w7 ⟨rfl, rfl⟩))
            | (go_at_call 91; refine (HRG.out _).mono ?_; (rintro e w7 ⟨rfl, rfl⟩))
            | (go_at_call 93; (with_reducible refine (HN91.out _ HO.out HX.out).mono ?_); (rintro e w3 ⟨rfl, hx3, ho3⟩); have HX := Lib.hid hx3; have HO := Lib.hid (HO.out.trans ho3); have k0 := HX.out.k0; clear hx3 ho3)
            | (go_at_call 93; (with_reducible refine (HN93.out _ HO.out HX.out).mono ?_); (rintro e w3 ⟨rfl, hx3, ho3⟩); have HX := Lib.hid hx3; have HO := Lib.hid (HO.out.trans ho3); have k0 := HX.out.k0; clear hx3 ho3)
            | (go_at_call 93; (with_reducible refine (HN6060.out _ HO.out HX.out).mono ?_); (rintro e w3 ⟨rfl, hx3, ho3⟩); have HX := Lib.hid hx3; have HO := Lib.hid (HO.out.trans ho3); have k0 := HX.out.k0; clear hx3 ho3)
            | (go_at_call 93; (with_reducible refine (HN6262.out _ HO.out HX.out).mono ?_); (rintro e w3 ⟨rfl, hx3, ho3⟩); have HX := Lib.hid hx3; have HO := Lib.hid (HO.out.trans ho3); have k0 := HX.out.k0; clear hx3 ho3)
            | (go_at_call 93; (with_reducible refine (HY47.out _ HO.out HX.out).mono ?_); (rintro e w4 ⟨rfl, hx4, ho4⟩); have HX := Lib.hid hx4; have HO := Lib.hid (HO.out.trans ho4); have k0 := HX.out.k0; clear hx4 ho4)
            | (go_at_call 94; refine (HXM.out _ HO.out _ HX.out).mono ?_; (rintro r w5 ⟨k5, a5, v5, A5, m5, c5, q5, rfl, hx5, ho5, hf5⟩); have HBL := Lib.hid (Nat.lt_of_lt_of_le HBX.out.lt HO.out.size); have HX := Lib.hid hx5; have HO := Lib.hid (HO.out.trans ho5); have HF5 := Lib.hid hf5; clear hx5 ho5 hf5; have HBX := Lib.hid (HBX.out.only HO.out (by have := HLT.out; omega)); have kb0 := HBX.out.c0; have kb1 := HBX.out.c1; have kb2 := HBX.out.c2; have kb3 := HBX.out.c3; have kbf := HBX.out.fr))
          refine bodyPost_ret (results_cell_row_tmp rfl _ _ w.heap.size 56 _ (0, 0) _ rfl HBX.out.set4_ Try.underlying56 rfl (by kernel_rfl) _ rfl) rfl ?_
          have hl := HLT.out
          exact ⟨_, _, _, _, _, _, _, rfl, HX.out.set4_ (by omega) (by omega), (HO0.out.trans HO.out).set4_ (Nat.le_refl _), fun h0 => ⟨(HF5.out h0).1, (HF5.out h0).2.1, (HF5.out h0).2.2.1, by rw [size_set4]; exact (HF5.out h0).2.2.2.1.set4_ (HF5.out h0).2.2.2.2 HBL.out, fun h9 b o e => by have h1 := (HF5.out h0).2.2.2.2 h9 b o e; have h2 := HBL.out; omega⟩⟩
        · clear hnm hrg hneg
          have hT : tokZ zs p = ⟨(textF zs (zs.length + 1) (p + 1) 1 []).1, 3, 0, (textF zs (zs.length + 1) (p + 1) 1 []).2.1, (textF zs (zs.length + 1) (p + 1) 1 []).2.2⟩ := by
            rw [tokZ, hy, if_neg (by decide), if_neg (by decide), if_neg (by decide), if_neg (by decide), if_neg (by decide), if_neg (fun e => absurd e.1 (by decide)), if_neg (fun e => absurd e.1 (by decide)), if_neg (by decide), if_pos rfl]
          have HN91 := Lib.hid (fun W ho hW => HMN.out ⟨#[91]⟩ (by decide) (by rw [HS1.out, HY.out]; rfl) W ho hW)
          have HN93 := Lib.hid (fun W ho hW => HMN.out ⟨#[93]⟩ (by decide) (by rw [HS1.out, HY.out]; rfl) W ho hW)
          have HN6060 := Lib.hid (fun W ho hW => HMN.out ⟨#[60, 60]⟩ (by decide) (by rw [HS2.out, HY.out, HY2.out]; exact decide_eq_false (fun e => absurd e.1 (by decide))) W ho hW)
          have HN6262 := Lib.hid (fun W ho hW => HMN.out ⟨#[62, 62]⟩ (by decide) (by rw [HS2.out, HY.out, HY2.out]; exact decide_eq_false (fun e => absurd e.1 (by decide))) W ho hW)
          have HN47 := Lib.hid (fun W ho hW => HMN.out ⟨#[47]⟩ (by decide) (by rw [HS1.out, HY.out]; rfl) W ho hW)
          have HY40 := Lib.hid (fun W ho hW => HMY.out ⟨#[40]⟩ 1 rfl (by rw [HS1.out, HY.out]; rfl) W ho hW)
          rw [hT]
          clear hT hy hy2 hbd
          go_enter Try.func62, Try.ntmps62
          go_upto_region 1 with fail
          rw [HW0.out]
          go_wp2_with (first
            | (go_at_call 87; refine HPK.out.mono ?_; (rintro e w2 ⟨rfl, q2, rfl⟩); have HX := Lib.hid (HX0.out.drewN q2); have HO := Lib.hid ((Only.refl g W0).drewN q2))
            | (go_at_call 89; refine (HNU.out _).mono ?_; (rintro e w7 ⟨rfl, rfl⟩))
            | (go_at_call 91; refine (HRG.out _).mono ?_; (rintro e w7 ⟨rfl, rfl⟩))
            | (go_at_call 93; (with_reducible refine (HN91.out _ HO.out HX.out).mono ?_); (rintro e w3 ⟨rfl, hx3, ho3⟩); have HX := Lib.hid hx3; have HO := Lib.hid (HO.out.trans ho3); have k0 := HX.out.k0; clear hx3 ho3)
            | (go_at_call 93; (with_reducible refine (HN93.out _ HO.out HX.out).mono ?_); (rintro e w3 ⟨rfl, hx3, ho3⟩); have HX := Lib.hid hx3; have HO := Lib.hid (HO.out.trans ho3); have k0 := HX.out.k0; clear hx3 ho3)
            | (go_at_call 93; (with_reducible refine (HN6060.out _ HO.out HX.out).mono ?_); (rintro e w3 ⟨rfl, hx3, ho3⟩); have HX := Lib.hid hx3; have HO := Lib.hid (HO.out.trans ho3); have k0 := HX.out.k0; clear hx3 ho3)
            | (go_at_call 93; (with_reducible refine (HN6262.out _ HO.out HX.out).mono ?_); (rintro e w3 ⟨rfl, hx3, ho3⟩); have HX := Lib.hid hx3; have HO := Lib.hid (HO.out.trans ho3); have k0 := HX.out.k0; clear hx3 ho3)
            | (go_at_call 93; (with_reducible refine (HN47.out _ HO.out HX.out).mono ?_); (rintro e w3 ⟨rfl, hx3, ho3⟩); have HX := Lib.hid hx3; have HO := Lib.hid (HO.out.trans ho3); have k0 := HX.out.k0; clear hx3 ho3)
            | (go_at_call 93; (with_reducible refine (HY40.out _ HO.out HX.out).mono ?_); (rintro e w4 ⟨rfl, hx4, ho4⟩); have HX := Lib.hid hx4; have HO := Lib.hid (HO.out.trans ho4); have k0 := HX.out.k0; clear hx4 ho4)
            | (go_at_call 95; refine (HXT.out _ HO.out _ HX.out).mono ?_; (rintro r w5 ⟨k5, a5, v5, A5, m5, c5, q5, rfl, hx5, ho5, hf5⟩); have HBL := Lib.hid (Nat.lt_of_lt_of_le HBX.out.lt HO.out.size); have HX := Lib.hid hx5; have HO := Lib.hid (HO.out.trans ho5); have HF5 := Lib.hid hf5; clear hx5 ho5 hf5; have HBX := Lib.hid (HBX.out.only HO.out (by have := HLT.out; omega)); have kb0 := HBX.out.c0; have kb1 := HBX.out.c1; have kb2 := HBX.out.c2; have kb3 := HBX.out.c3; have kbf := HBX.out.fr))
          refine bodyPost_ret (results_cell_row_tmp rfl _ _ w.heap.size 56 _ (0, 0) _ rfl HBX.out.set4_ Try.underlying56 rfl (by kernel_rfl) _ rfl) rfl ?_
          have hl := HLT.out
          exact ⟨_, _, _, _, _, _, _, rfl, HX.out.set4_ (by omega) (by omega), (HO0.out.trans HO.out).set4_ (Nat.le_refl _), fun h0 => ⟨(HF5.out h0).1, (HF5.out h0).2.1, (HF5.out h0).2.2.1, by rw [size_set4]; exact (HF5.out h0).2.2.2.1.set4_ (HF5.out h0).2.2.2.2 HBL.out, fun h9 b o e => by have h1 := (HF5.out h0).2.2.2.2 h9 b o e; have h2 := HBL.out; omega⟩⟩
        · clear hnm hrg hneg
          have hT : tokZ zs p = ⟨(hexZ zs (p + 1)).1, 3, 0, (hexZ zs (p + 1)).2.1, (hexZ zs (p + 1)).2.2⟩ := by
            rw [tokZ, hy, if_neg (by decide), if_neg (by decide), if_neg (by decide), if_neg (by decide), if_neg (by decide), if_neg (fun e => h62 (by rw [← hy2]; exact e.2)), if_neg (fun e => absurd e.1 (by decide)), if_neg (by decide), if_neg (by decide), if_pos rfl]
          have HN91 := Lib.hid (fun W ho hW => HMN.out ⟨#[91]⟩ (by decide) (by rw [HS1.out, HY.out]; rfl) W ho hW)
          have HN93 := Lib.hid (fun W ho hW => HMN.out ⟨#[93]⟩ (by decide) (by rw [HS1.out, HY.out]; rfl) W ho hW)
          have HN6060 := Lib.hid (fun W ho hW => HMN.out ⟨#[60, 60]⟩ (by decide) (by rw [HS2.out, HY.out, HY2.out]; exact decide_eq_false (fun e => h62 e.2)) W ho hW)
          have HN6262 := Lib.hid (fun W ho hW => HMN.out ⟨#[62, 62]⟩ (by decide) (by rw [HS2.out, HY.out, HY2.out]; exact decide_eq_false (fun e => absurd e.1 (by decide))) W ho hW)
          have HN47 := Lib.hid (fun W ho hW => HMN.out ⟨#[47]⟩ (by decide) (by rw [HS1.out, HY.out]; rfl) W ho hW)
          have HN40 := Lib.hid (fun W ho hW => HMN.out ⟨#[40]⟩ (by decide) (by rw [HS1.out, HY.out]; rfl) W ho hW)
          have HY60 := Lib.hid (fun W ho hW => HMY.out ⟨#[60]⟩ 1 rfl (by rw [HS1.out, HY.out]; rfl) W ho hW)
          rw [hT]
          clear hT hy hy2 hbd
          go_enter Try.func62, Try.ntmps62
          go_upto_region 1 with fail
          rw [HW0.out]
          go_wp2_with (first
            | (go_at_call 87; refine HPK.out.mono ?_; (rintro e w2 ⟨rfl, q2, rfl⟩); have HX := Lib.hid (HX0.out.drewN q2); have HO := Lib.hid ((Only.refl g W0).drewN q2))
            | (go_at_call 89; refine (HNU.out _).mono ?_; (rintro e w7 ⟨rfl, rfl⟩))
            | (go_at_call 91; refine (HRG.out _).mono ?_; (rintro e w7 ⟨rfl, rfl⟩))
            | (go_at_call 93; (with_reducible refine (HN91.out _ HO.out HX.out).mono ?_); (rintro e w3 ⟨rfl, hx3, ho3⟩); have HX := Lib.hid hx3; have HO := Lib.hid (HO.out.trans ho3); have k0 := HX.out.k0; clear hx3 ho3)
            | (go_at_call 93; (with_reducible refine (HN93.out _ HO.out HX.out).mono ?_); (rintro e w3 ⟨rfl, hx3, ho3⟩); have HX := Lib.hid hx3; have HO := Lib.hid (HO.out.trans ho3); have k0 := HX.out.k0; clear hx3 ho3)
            | (go_at_call 93; (with_reducible refine (HN6060.out _ HO.out HX.out).mono ?_); (rintro e w3 ⟨rfl, hx3, ho3⟩); have HX := Lib.hid hx3; have HO := Lib.hid (HO.out.trans ho3); have k0 := HX.out.k0; clear hx3 ho3)
            | (go_at_call 93; (with_reducible refine (HN6262.out _ HO.out HX.out).mono ?_); (rintro e w3 ⟨rfl, hx3, ho3⟩); have HX := Lib.hid hx3; have HO := Lib.hid (HO.out.trans ho3); have k0 := HX.out.k0; clear hx3 ho3)
            | (go_at_call 93; (with_reducible refine (HN47.out _ HO.out HX.out).mono ?_); (rintro e w3 ⟨rfl, hx3, ho3⟩); have HX := Lib.hid hx3; have HO := Lib.hid (HO.out.trans ho3); have k0 := HX.out.k0; clear hx3 ho3)
            | (go_at_call 93; (with_reducible refine (HN40.out _ HO.out HX.out).mono ?_); (rintro e w3 ⟨rfl, hx3, ho3⟩); have HX := Lib.hid hx3; have HO := Lib.hid (HO.out.trans ho3); have k0 := HX.out.k0; clear hx3 ho3)
            | (go_at_call 93; (with_reducible refine (HY60.out _ HO.out HX.out).mono ?_); (rintro e w4 ⟨rfl, hx4, ho4⟩); have HX := Lib.hid hx4; have HO := Lib.hid (HO.out.trans ho4); have k0 := HX.out.k0; clear hx4 ho4)
            | (go_at_call 96; refine (HXD.out _ HO.out _ HX.out).mono ?_; (rintro r w5 ⟨k5, a5, v5, A5, m5, c5, q5, rfl, hx5, ho5, hf5⟩); have HBL := Lib.hid (Nat.lt_of_lt_of_le HBX.out.lt HO.out.size); have HX := Lib.hid hx5; have HO := Lib.hid (HO.out.trans ho5); have HF5 := Lib.hid hf5; clear hx5 ho5 hf5; have HBX := Lib.hid (HBX.out.only HO.out (by have := HLT.out; omega)); have kb0 := HBX.out.c0; have kb1 := HBX.out.c1; have kb2 := HBX.out.c2; have kb3 := HBX.out.c3; have kbf := HBX.out.fr))
          refine bodyPost_ret (results_cell_row_tmp rfl _ _ w.heap.size 56 _ (0, 0) _ rfl HBX.out.set4_ Try.underlying56 rfl (by kernel_rfl) _ rfl) rfl ?_
          have hl := HLT.out
          exact ⟨_, _, _, _, _, _, _, rfl, HX.out.set4_ (by omega) (by omega), (HO0.out.trans HO.out).set4_ (Nat.le_refl _), fun h0 => ⟨(HF5.out h0).1, (HF5.out h0).2.1, (HF5.out h0).2.2.1, by rw [size_set4]; exact (HF5.out h0).2.2.2.1.set4_ (HF5.out h0).2.2.2.2 HBL.out, fun h9 b o e => by have h1 := (HF5.out h0).2.2.2.2 h9 b o e; have h2 := HBL.out; omega⟩⟩
        · have HA := Lib.hid hA
          have HBQ := Lib.hid hBq
          have HNG := Lib.hid hneg
          have hT : tokZ zs p = ⟨4, 0, 0, [], p⟩ := by
            rw [tokZ, hy, hy2, if_neg hneg, if_neg (by rw [hnm]; decide), if_neg (by rw [hrg]; decide), if_neg hA.1, if_neg hA.2.1, if_neg (fun e => hA.2.2.1 e.1), if_neg hBq, if_neg hA.2.2.2.1, if_neg hA.2.2.2.2, if_neg hA.2.2.1]
          have HN91 := Lib.hid (fun W ho hW => HMN.out ⟨#[91]⟩ (by decide) (by rw [HS1.out, HY.out]; exact decide_eq_false hA.1) W ho hW)
          have HN93 := Lib.hid (fun W ho hW => HMN.out ⟨#[93]⟩ (by decide) (by rw [HS1.out, HY.out]; exact decide_eq_false hA.2.1) W ho hW)
          have HN6060 := Lib.hid (fun W ho hW => HMN.out ⟨#[60, 60]⟩ (by decide) (by rw [HS2.out, HY.out, HY2.out]; exact decide_eq_false (fun e => hA.2.2.1 e.1)) W ho hW)
          have HN6262 := Lib.hid (fun W ho hW => HMN.out ⟨#[62, 62]⟩ (by decide) (by rw [HS2.out, HY.out, HY2.out]; exact decide_eq_false (fun e => hBq ⟨e.1, e.2⟩)) W ho hW)
          have HN47 := Lib.hid (fun W ho hW => HMN.out ⟨#[47]⟩ (by decide) (by rw [HS1.out, HY.out]; exact decide_eq_false hA.2.2.2.1) W ho hW)
          have HN40 := Lib.hid (fun W ho hW => HMN.out ⟨#[40]⟩ (by decide) (by rw [HS1.out, HY.out]; exact decide_eq_false hA.2.2.2.2) W ho hW)
          have HN60 := Lib.hid (fun W ho hW => HMN.out ⟨#[60]⟩ (by decide) (by rw [HS1.out, HY.out]; exact decide_eq_false hA.2.2.1) W ho hW)
          rw [hT]
          clear hT hy hy2 hbd hA hBq hneg hnm hrg
          go_enter Try.func62, Try.ntmps62
          go_upto_region 1 with fail
          rw [HW0.out]
          go_wp2_with (first
            | (go_at_call 87; refine HPK.out.mono ?_; (rintro e w2 ⟨rfl, q2, rfl⟩); have HX := Lib.hid (HX0.out.drewN q2); have HO := Lib.hid ((Only.refl g W0).drewN q2))
            | (go_at_call 89; refine (HNU.out _).mono ?_; (rintro e w7 ⟨rfl, rfl⟩))
            | (go_at_call 91; refine (HRG.out _).mono ?_; (rintro e w7 ⟨rfl, rfl⟩))
            | (go_at_call 93; (with_reducible refine (HN91.out _ HO.out HX.out).mono ?_); (rintro e w3 ⟨rfl, hx3, ho3⟩); have HX := Lib.hid hx3; have HO := Lib.hid (HO.out.trans ho3); have k0 := HX.out.k0; clear hx3 ho3)
            | (go_at_call 93; (with_reducible refine (HN93.out _ HO.out HX.out).mono ?_); (rintro e w3 ⟨rfl, hx3, ho3⟩); have HX := Lib.hid hx3; have HO := Lib.hid (HO.out.trans ho3); have k0 := HX.out.k0; clear hx3 ho3)
            | (go_at_call 93; (with_reducible refine (HN6060.out _ HO.out HX.out).mono ?_); (rintro e w3 ⟨rfl, hx3, ho3⟩); have HX := Lib.hid hx3; have HO := Lib.hid (HO.out.trans ho3); have k0 := HX.out.k0; clear hx3 ho3)
            | (go_at_call 93; (with_reducible refine (HN6262.out _ HO.out HX.out).mono ?_); (rintro e w3 ⟨rfl, hx3, ho3⟩); have HX := Lib.hid hx3; have HO := Lib.hid (HO.out.trans ho3); have k0 := HX.out.k0; clear hx3 ho3)
            | (go_at_call 93; (with_reducible refine (HN47.out _ HO.out HX.out).mono ?_); (rintro e w3 ⟨rfl, hx3, ho3⟩); have HX := Lib.hid hx3; have HO := Lib.hid (HO.out.trans ho3); have k0 := HX.out.k0; clear hx3 ho3)
            | (go_at_call 93; (with_reducible refine (HN40.out _ HO.out HX.out).mono ?_); (rintro e w3 ⟨rfl, hx3, ho3⟩); have HX := Lib.hid hx3; have HO := Lib.hid (HO.out.trans ho3); have k0 := HX.out.k0; clear hx3 ho3)
            | (go_at_call 93; (with_reducible refine (HN60.out _ HO.out HX.out).mono ?_); (rintro e w3 ⟨rfl, hx3, ho3⟩); have HX := Lib.hid hx3; have HO := Lib.hid (HO.out.trans ho3); have k0 := HX.out.k0; clear hx3 ho3; have HBX := Lib.hid (HBX.out.only HO.out (by have := HLT.out; omega)); have kb0 := HBX.out.c0; have kb1 := HBX.out.c1; have kb2 := HBX.out.c2; have kb3 := HBX.out.c3; have kbf := HBX.out.fr))
          refine bodyPost_ret (results_cell_row_tmp rfl _ _ w.heap.size 56 _ (0, 0) _ rfl HBX.out.set4_ Try.underlying56 rfl (by kernel_rfl) _ rfl) rfl ?_
          have hl := HLT.out
          exact ⟨_, _, _, _, _, _, _, rfl, HX.out.set4_ (by omega) (by omega), (HO0.out.trans HO.out).set4_ (Nat.le_refl _), fun h0 => absurd (show (4 : Int) = 0 from h0) (by decide)⟩
      · rw [hrg] at HRG
        have hT : tokZ zs p = if 127 < rowZ regB (zs.drop p) then ⟨3, 0, 0, [], p⟩ else ⟨0, 9, 0, (zs.drop p).take (rowZ regB (zs.drop p)), p + rowZ regB (zs.drop p)⟩ := by
          rw [tokZ, hy, if_neg hneg, if_neg (by rw [hnm]; decide), if_pos hrg]
        rw [hT]
        obtain ⟨T, hTT⟩ : ∃ T : Tk, (if 127 < rowZ regB (zs.drop p) then ⟨3, 0, 0, [], p⟩ else ⟨0, 9, 0, (zs.drop p).take (rowZ regB (zs.drop p)), p + rowZ regB (zs.drop p)⟩) = T := ⟨_, rfl⟩
        have HXW2 := Lib.hid (fun W ho hW => HXW.out W ho p hW)
        rw [hTT] at HXW2 ⊢
        clear hTT
        clear hT hy hy2 hbd hneg hnm hrg
        go_enter Try.func62, Try.ntmps62
        go_upto_region 1 with fail
        rw [HW0.out]
        go_wp2_with (first
          | (go_at_call 87; refine HPK.out.mono ?_; (rintro e w2 ⟨rfl, q2, rfl⟩); have HX := Lib.hid (HX0.out.drewN q2); have HO := Lib.hid ((Only.refl g W0).drewN q2))
          | (go_at_call 89; refine (HNU.out _).mono ?_; (rintro e w7 ⟨rfl, rfl⟩))
          | (go_at_call 91; refine (HRG.out _).mono ?_; (rintro e w7 ⟨rfl, rfl⟩))
          | (go_at_call 92; refine (HXW2.out _ HO.out HX.out).mono ?_; (rintro r w5 ⟨k5, a5, v5, A5, m5, c5, q5, rfl, hx5, ho5, hf5⟩); have HBL := Lib.hid (Nat.lt_of_lt_of_le HBX.out.lt HO.out.size); have HX := Lib.hid hx5; have HO := Lib.hid (HO.out.trans ho5); have HF5 := Lib.hid hf5; clear hx5 ho5 hf5; have HBX := Lib.hid (HBX.out.only HO.out (by have := HLT.out; omega)); have kb0 := HBX.out.c0; have kb1 := HBX.out.c1; have kb2 := HBX.out.c2; have kb3 := HBX.out.c3; have kbf := HBX.out.fr))
        refine bodyPost_ret (results_cell_row_tmp rfl _ _ w.heap.size 56 _ (0, 0) _ rfl HBX.out.set4_ Try.underlying56 rfl (by kernel_rfl) _ rfl) rfl ?_
        have hl := HLT.out
        exact ⟨_, _, _, _, _, _, _, rfl, HX.out.set4_ (by omega) (by omega), (HO0.out.trans HO.out).set4_ (Nat.le_refl _), fun h0 => ⟨(HF5.out h0).1, (HF5.out h0).2.1, (HF5.out h0).2.2.1, by rw [size_set4]; exact (HF5.out h0).2.2.2.1.set4_ (HF5.out h0).2.2.2.2 HBL.out, fun h9 b o e => by have h1 := (HF5.out h0).2.2.2.2 h9 b o e; have h2 := HBL.out; omega⟩⟩
    · rw [hnm] at HNU
      have hT : tokZ zs p = ⟨(parseS ((zs.drop p).take (rowZ regB (zs.drop p)))).2.2, if (parseS ((zs.drop p).take (rowZ regB (zs.drop p)))).2.1 = true then 1 else 2, (parseS ((zs.drop p).take (rowZ regB (zs.drop p)))).1, [], p + rowZ regB (zs.drop p)⟩ := by
        rw [tokZ, hy, if_neg hneg, if_pos hnm]
      rw [hT]
      obtain ⟨T, hTT⟩ : ∃ T : Tk, (⟨(parseS ((zs.drop p).take (rowZ regB (zs.drop p)))).2.2, if (parseS ((zs.drop p).take (rowZ regB (zs.drop p)))).2.1 = true then 1 else 2, (parseS ((zs.drop p).take (rowZ regB (zs.drop p)))).1, [], p + rowZ regB (zs.drop p)⟩ : Tk) = T := ⟨_, rfl⟩
      have HXW2 := Lib.hid (fun W ho hW => HXN.out W ho p hW)
      rw [hTT] at HXW2 ⊢
      clear hTT
      clear hT hy hy2 hbd hneg hnm
      go_enter Try.func62, Try.ntmps62
      go_upto_region 1 with fail
      rw [HW0.out]
      go_wp2_with (first
        | (go_at_call 87; refine HPK.out.mono ?_; (rintro e w2 ⟨rfl, q2, rfl⟩); have HX := Lib.hid (HX0.out.drewN q2); have HO := Lib.hid ((Only.refl g W0).drewN q2))
        | (go_at_call 89; refine (HNU.out _).mono ?_; (rintro e w7 ⟨rfl, rfl⟩))
        | (go_at_call 90; refine (HXW2.out _ HO.out HX.out).mono ?_; (rintro r w5 ⟨k5, a5, v5, A5, m5, c5, q5, rfl, hx5, ho5, hf5⟩); have HBL := Lib.hid (Nat.lt_of_lt_of_le HBX.out.lt HO.out.size); have HX := Lib.hid hx5; have HO := Lib.hid (HO.out.trans ho5); have HF5 := Lib.hid hf5; clear hx5 ho5 hf5; have HBX := Lib.hid (HBX.out.only HO.out (by have := HLT.out; omega)); have kb0 := HBX.out.c0; have kb1 := HBX.out.c1; have kb2 := HBX.out.c2; have kb3 := HBX.out.c3; have kbf := HBX.out.fr))
      refine bodyPost_ret (results_cell_row_tmp rfl _ _ w.heap.size 56 _ (0, 0) _ rfl HBX.out.set4_ Try.underlying56 rfl (by kernel_rfl) _ rfl) rfl ?_
      have hl := HLT.out
      exact ⟨_, _, _, _, _, _, _, rfl, HX.out.set4_ (by omega) (by omega), (HO0.out.trans HO.out).set4_ (Nat.le_refl _), fun h0 => ⟨(HF5.out h0).1, (HF5.out h0).2.1, (HF5.out h0).2.2.1, by rw [size_set4]; exact (HF5.out h0).2.2.2.1.set4_ (HF5.out h0).2.2.2.2 HBL.out, fun h9 b o e => by have h1 := (HF5.out h0).2.2.2.2 h9 b o e; have h2 := HBL.out; omega⟩⟩
end

section
open Go.RowKit
set_option linter.unusedVariables false
set_option maxRecDepth 100000
theorem plnewC (A : Option Addr) (n c : Nat) (w : World) : Calls Try.prog 36 #[.slice A n c] w fun e w' => e = .returned (.pointer (some ⟨w.heap.size + 1, 0, none⟩)) ∧ LX w' (w.heap.size + 1) w.heap.size A n c 0 ∧ w'.heap.size = w.heap.size + 2 ∧ Below w.heap.size w w' := by
  have HN := Lib.hid (new_any A n c w)
  go_enter Try.func36, Try.ntmps36
  go_wp2_with (go_at_call 59; refine HN.out.mono ?_; (rintro e w2 ⟨rfl, rfl⟩))
  go_ret
  have h1 := (Below.refl w.heap.size w).alloc (Nat.le_refl _) (.cells #[.slice A n c, .int .i64 (0 : Nat)] 105)
  have hs : (w.alloc (.cells #[.slice A n c, .int .i64 (0 : Nat)] 105)).heap.size = w.heap.size + 1 := by simp
  have h2 := (Below.refl (w.heap.size + 1) (w.alloc (.cells #[.slice A n c, .int .i64 (0 : Nat)] 105))).alloc (by rw [hs]; exact Nat.le_refl _) (.cells #[.pointer (some ⟨w.heap.size, 0, none⟩)] 82)
  refine ⟨by simp, ⟨?_, (Cur.new w).below h2 (by omega), by omega, by omega⟩, by simp, h1.trans (h2.mono (by omega))⟩
  have h3 := heap_alloc_new (w.alloc (.cells #[.slice A n c, .int .i64 (0 : Nat)] 105)) (.cells #[.pointer (some ⟨w.heap.size, 0, none⟩)] 82)
  rw [hs] at h3
  exact h3
/-- What Token leaves. -/
def TokP (h g : Nat) (A : Option Addr) (n c : Nat) (t : Tk) (at_ : Nat) (w : World) (r : Ending) (w' : World) : Prop :=
  ∃ (A' : Option Addr) (m c' : Nat), r = .returned (.tuple #[tkA t.k at_ t.v A' m c', .int .i64 t.e]) ∧ LX w' h g A n c t.q ∧ Only g w w' ∧ Byt w' w'.heap.size A' m c' t.b ∧ From w.heap.size A' m
set_option maxHeartbeats 4000000 in
theorem ptokC (h g n c p B : Nat) (A : Option Addr) (zs : List Int) (w : World) (hx : LX w h g A n c p) (hb : Byt w B A n c zs) (hB : B ≤ g) (hn : n ≤ 900000) :
    Calls Try.prog 37 #[.pointer (some ⟨h, 0, none⟩)] w (TokP h g A n c (tokT zs p) (blkP zs p) w) := by
  have hlen := hb.len
  have hle := (blkP_le zs p (by rw [hb.len]; exact hx.pl)).2
  rw [hlen] at hle
  have hbx := Bx.new w 56 (.int .i64 0) (.int .i64 0) (.int .i64 0) (.slice none 0 0)
  have hb0 : Below w.heap.size w (w.alloc (.cells (tkC 0 0 0 none 0 0) 56)) := (Below.refl w.heap.size w).alloc (Nat.le_refl _) _
  obtain ⟨W0, hW0⟩ : ∃ W0, w.alloc (.cells (tkC 0 0 0 none 0 0) 56) = W0 := ⟨_, rfl⟩
  have hs0 : W0.heap.size = w.heap.size + 1 := by rw [← hW0]; simp
  rw [show w.alloc (.cells #[.int .i64 0, .int .i64 0, .int .i64 0, .slice none 0 0] 56) = W0 from hW0] at hbx
  rw [hW0] at hb0
  have HW0 := Lib.hid (show w.alloc (.cells #[.int .i64 0, .int .i64 0, .int .i64 0, .slice none 0 0] 56) = W0 from hW0)
  have HBX := Lib.hid hbx
  have HB0 := Lib.hid hb0
  have HS0 := Lib.hid hs0
  have HO0 : Hid (Only g w W0) := Lib.hid (Only.of_below hb0 g)
  have hltg := hx.cu.lt
  have hlth := hx.lt
  have HX0 := Lib.hid (hx.below hb0 hlth hltg)
  have HBY0 := Lib.hid (hb.below hb0 (by omega))
  have HLT := Lib.hid (show g < w.heap.size ∧ h < w.heap.size from ⟨hltg, hlth⟩)
  clear hbx hb0 hW0 hs0 hltg hlth
  have HGW := Lib.hid (show g ≤ W0.heap.size by have := HS0.out; have := HLT.out; omega)
  have HB1 := Lib.hid (fun W (ho : Only g W0 W) => HBY0.out.only ho hB HGW.out)
  have HBLK := Lib.hid (pblankC h g n c p B A zs W0 HX0.out HBY0.out hB (by omega))
  have HTOK := Lib.hid (fun W (ho : Only g W0 W) q (hW : LX W h g A n c q) => ptokenC h g n c q B A zs W hW (HB1.out W ho) hB hn)
  obtain ⟨bp, hbp⟩ : ∃ bp, blkP zs p = bp := ⟨_, rfl⟩
  unfold tokT
  rw [hbp] at hle HBLK ⊢
  have HPO := Lib.hid (fun W (hW : LX W h g A n c bp) => pos_any g n c bp A W hW.cu)
  have HSK := Lib.hid (fun W q (hW : LX W h g A n c q) => seek_in g n c q bp A W hW.cu hle (by omega))
  obtain ⟨⟨e, k, v, b, q⟩, hT⟩ : ∃ T, tokZ zs bp = T := ⟨_, rfl⟩
  have HTK := Lib.hid (fun W (ho : Only g W0 W) (hW : LX W h g A n c bp) => HTOK.out W ho bp hW)
  rw [hT] at HTK ⊢
  have HLE := Lib.hid hle
  clear hx hb hbp hT hlen hle
  dsimp only
  by_cases he0 : e = 0
  · rw [if_pos he0]
    subst he0
    go_enter Try.func37, Try.ntmps37
    go_upto_region 1 with fail
    rw [HW0.out]
    go_upto_region 6 with (first
      | (go_at_call 60; refine HBLK.out.mono ?_; (rintro r w2 ⟨rfl, hx2, ho2⟩); have HX := Lib.hid hx2; have HO := Lib.hid ho2; have k0 := hx2.k0; clear hx2 ho2)
      | (go_at_call 61; refine (HPO.out _ HX.out).mono ?_; (rintro r w3 ⟨rfl, rfl⟩))
      | (go_at_call 62; refine (HTK.out _ HO.out HX.out).mono ?_; (rintro r w5 ⟨k5, a5, v5, A5, m5, c5, q5, rfl, hx5, ho5, hf5⟩); have HBL := Lib.hid (Nat.lt_of_lt_of_le HBX.out.lt HO.out.size); have HX := Lib.hid hx5; have HO := Lib.hid (HO.out.trans ho5); have HF5 := Lib.hid hf5; have HBX := Lib.hid (HBX.out.only HO.out (by have := HLT.out; omega)); clear hx5 ho5 hf5))
    obtain ⟨W6, hW6⟩ : ∃ W6, w5.alloc (.cells #[.int .i64 k5, .int .i64 a5, .int .i64 v5, .slice A5 m5 c5] 56) = W6 := ⟨_, rfl⟩
    have hb6 := (Below.refl w5.heap.size w5).alloc (Nat.le_refl _) (.cells #[.int .i64 k5, .int .i64 a5, .int .i64 v5, .slice A5 m5 c5] 56)
    have hbx6 := Bx.new w5 56 (.int .i64 k5) (.int .i64 a5) (.int .i64 v5) (.slice A5 m5 c5)
    rw [hW6] at hb6 hbx6
    rw [hW6]
    have HX6 := Lib.hid (HX.out.below hb6 HX.out.lt HX.out.cu.lt)
    have HO6 := Lib.hid (HO.out.trans (Only.of_below hb6 g))
    have HBX6 := Lib.hid (HBX.out.below hb6 HBX.out.lt)
    have HB6 := Lib.hid hb6
    have HN6 := Lib.hid hbx6
    have HG5 := Lib.hid (show g < w5.heap.size ∧ h < w5.heap.size ∧ w.heap.size < w5.heap.size from ⟨HX.out.cu.lt, HX.out.lt, HBX.out.lt⟩)
    clear hW6 hb6 hbx6
    obtain ⟨rfl, rfl, rfl, hby, hfr⟩ := HF5.out (by first | rfl | trivial)
    have HBY := Lib.hid hby
    have HFR := Lib.hid hfr
    clear hby hfr
    have t0 := HN6.out.c0
    have t1 := HN6.out.c1
    have t2 := HN6.out.c2
    have t3 := HN6.out.c3
    have tf := HN6.out.fr
    go_upto_region 10 with fail
    have hn7 := HN6.out.set1_ (.int .i64 (bp : Int))
    have hb7 : Below w5.heap.size w5 (W6.setCell ⟨w5.heap.size, 1, none⟩ (.int .i64 (bp : Int))) := HB6.out.setCell (p := ⟨w5.heap.size, 1, none⟩) (Nat.le_refl _) _
    obtain ⟨W7, hW7⟩ : ∃ W7, W6.setCell ⟨w5.heap.size, 1, none⟩ (.int .i64 (bp : Int)) = W7 := ⟨_, rfl⟩
    rw [hW7] at hn7 hb7
    rw [hW7]
    have HX7 := Lib.hid (HX.out.below hb7 HG5.out.2.1 HG5.out.1)
    have HO7 := Lib.hid (HO.out.trans (Only.of_below hb7 g))
    have HBX7 := Lib.hid (HBX.out.below hb7 HG5.out.2.2)
    have HBY7 := Lib.hid ((HBY.out.below hb7 (Nat.le_refl _)).more hb7.size)
    clear t0 t1 t2 t3 tf
    have t0 := hn7.c0
    have t1 := hn7.c1
    have t2 := hn7.c2
    have t3 := hn7.c3
    have kb0 := HBX7.out.c0
    have kb1 := HBX7.out.c1
    have kb2 := HBX7.out.c2
    have kb3 := HBX7.out.c3
    have kbf := HBX7.out.fr
    clear hn7 hb7 hW7
    go_wp2_with fail
    refine bodyPost_ret (results_cell_row_tmp rfl _ _ w.heap.size 56 _ (0, 0) _ rfl HBX7.out.set4_ Try.underlying56 rfl (by kernel_rfl) _ rfl) rfl ?_
    have hl := HLT.out
    exact ⟨_, _, _, rfl, HX7.out.set4_ (by omega) (by omega), (HO0.out.trans HO7.out).set4_ (Nat.le_refl _), by rw [size_set4]; exact HBY7.out.set4_ HFR.out HBL.out, fun h9 b o e => by have h1 := HFR.out h9 b o e; have h2 := HBL.out; omega⟩
  · rw [if_neg he0]
    have heb : (e == 0) = false := beq_eq_false_iff_ne.2 he0
    clear he0
    go_enter Try.func37, Try.ntmps37
    go_upto_region 1 with fail
    rw [HW0.out]
    go_upto_region 6 with (first
      | (go_at_call 60; refine HBLK.out.mono ?_; (rintro r w2 ⟨rfl, hx2, ho2⟩); have HX := Lib.hid hx2; have HO := Lib.hid ho2; have k0 := hx2.k0; clear hx2 ho2)
      | (go_at_call 61; refine (HPO.out _ HX.out).mono ?_; (rintro r w3 ⟨rfl, rfl⟩))
      | (go_at_call 62; refine (HTK.out _ HO.out HX.out).mono ?_; (rintro r w5 ⟨k5, a5, v5, A5, m5, c5, q5, rfl, hx5, ho5, hf5⟩); have HBL := Lib.hid (Nat.lt_of_lt_of_le HBX.out.lt HO.out.size); have HX := Lib.hid hx5; have HO := Lib.hid (HO.out.trans ho5); have HF5 := Lib.hid hf5; have HBX := Lib.hid (HBX.out.only HO.out (by have := HLT.out; omega)); clear hx5 ho5 hf5))
    obtain ⟨W6, hW6⟩ : ∃ W6, w5.alloc (.cells #[.int .i64 k5, .int .i64 a5, .int .i64 v5, .slice A5 m5 c5] 56) = W6 := ⟨_, rfl⟩
    have hb6 := (Below.refl w5.heap.size w5).alloc (Nat.le_refl _) (.cells #[.int .i64 k5, .int .i64 a5, .int .i64 v5, .slice A5 m5 c5] 56)
    have hbx6 := Bx.new w5 56 (.int .i64 k5) (.int .i64 a5) (.int .i64 v5) (.slice A5 m5 c5)
    rw [hW6] at hb6 hbx6
    rw [hW6]
    have HX6 := Lib.hid (HX.out.below hb6 HX.out.lt HX.out.cu.lt)
    have HO6 := Lib.hid (HO.out.trans (Only.of_below hb6 g))
    have HBX6 := Lib.hid (HBX.out.below hb6 HBX.out.lt)
    have HB6 := Lib.hid hb6
    have HN6 := Lib.hid hbx6
    have HG5 := Lib.hid (show g < w5.heap.size ∧ h < w5.heap.size ∧ w.heap.size < w5.heap.size from ⟨HX.out.cu.lt, HX.out.lt, HBX.out.lt⟩)
    clear hW6 hb6 hbx6
    have k0 := HX6.out.k0
    go_upto_region 8 with (first
      | (go_at_call 63; refine (HSK.out _ _ HX6.out).mono ?_; (rintro r w7 ⟨rfl, hc7, ho7⟩); have HX7 := Lib.hid (HX6.out.moved hc7 ho7 HLE.out); have HO7 := Lib.hid (HO6.out.trans ho7); have HBX7 := Lib.hid (HBX6.out.only ho7 (by have := HLT.out; omega)); clear hc7 ho7))
    have kb0 := HBX7.out.c0
    have kb1 := HBX7.out.c1
    have kb2 := HBX7.out.c2
    have kb3 := HBX7.out.c3
    have kbf := HBX7.out.fr
    go_wp2_with fail
    refine bodyPost_ret (results_cell_row_tmp rfl _ _ w.heap.size 56 _ (0, 0) _ rfl HBX7.out.set4_ Try.underlying56 rfl (by kernel_rfl) _ rfl) rfl ?_
    have hl := HLT.out
    exact ⟨_, _, _, rfl, HX7.out.set4_ (by omega) (by omega), (HO0.out.trans HO7.out).set4_ (Nat.le_refl _), Byt.none_ _ _, fun h0 => absurd h0 (by omega)⟩
end

section
open Go.RowKit
set_option linter.unusedVariables false
set_option maxRecDepth 100000
theorem rstands (A : Option Addr) (n c B : Nat) (zs : List Int) (p : Nat) (s : ByteArray) (w : World) (hb : Byt w B A n c zs) (hn : n ≤ 900000) (hs : s.size ≤ 900000) :
    Calls Try.prog 39 #[.slice A n c, .int .i64 p, .string s] w fun e w' => e = .returned (.bool (stB zs p s)) ∧ ∃ k, w' = w.drewN k := by
  by_cases h : p + s.size ≤ n
  · exact (refStands_at A n c B zs p s w hb (by omega) h).mono fun _ _ ⟨h1, h2⟩ => ⟨h1, 0, h2 ▸ rfl⟩
  · rw [stB_no zs p s (by rw [hb.len]; omega)]
    exact (refStands_no2 A n c zs p s w hb.len (by omega) (by omega) (by omega)).mono fun _ _ ⟨h1, h2⟩ => ⟨h1, 0, h2 ▸ rfl⟩
end
end Go.Proofs.Ytpomkhcobpihmaa
