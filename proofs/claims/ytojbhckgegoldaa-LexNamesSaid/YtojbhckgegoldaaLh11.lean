/- Chapter 11, the project's own: digits of base 16. -/
import Derived.Test.YtojbhckgegoldaaLc11
namespace Go.Proofs.Ytojbhckgegoldaa
open Go.RowKit
set_option linter.unusedVariables false
set_option maxRecDepth 100000

theorem ppairedC (c : Int) (w : World) : Calls Try.prog 65 #[.int .i64 c] w fun e w' => e = .returned (.bool (prB c)) ∧ w = w' := by
  have HWH := Lib.hid (fun W => pwhite c W)
  have HD := Lib.hid (fun W => pdigit c W)
  unfold prB
  obtain ⟨d, hd⟩ : ∃ d, dgZ c = d := ⟨_, rfl⟩
  rw [hd] at HD ⊢
  clear hd
  by_cases h1 : 0 ≤ d
  · rw [decide_eq_true h1]
    go_enter Try.func65, Try.ntmps65
    go_wp2_with (go_at_call 77; refine (HD.out _).mono ?_; (rintro e w7 ⟨rfl, rfl⟩))
    go_ret
    exact ⟨rfl, rfl⟩
  · have e2 : decide (0 ≤ d) = false := decide_eq_false h1
    rw [e2]
    go_enter Try.func65, Try.ntmps65
    go_wp2_with (first
      | (go_at_call 77; refine (HD.out _).mono ?_; (rintro e w7 ⟨rfl, rfl⟩))
      | (go_at_call 39; refine (HWH.out _).mono ?_; (rintro e w7 ⟨rfl, rfl⟩); dsimp only))
    go_ret
    exact ⟨rfl, rfl⟩
theorem pairedF : KindF 65 prB := ⟨by decide, fun x W => ppairedC x W, fun _ _ => by kernel_rfl⟩
theorem unhx_row (M : Nat) : ∀ (l : List Int) (h : Int) (o : List Int), (unhxR M l h o).2 = 0 → rowZ prB l < l.length
  | [], _, _, h0 => by rw [unhxR] at h0; exact absurd (show (2 : Int) = 0 from h0) (by decide)
  | c :: cs, h, o, h0 => by
    rw [unhxR] at h0
    rw [rowZ]
    by_cases hw : whB c = true
    · rw [if_pos hw] at h0
      have := unhx_row M cs h o h0
      rw [if_pos (by unfold prB; rw [hw, Bool.or_true])]
      simp; omega
    · rw [if_neg hw] at h0
      by_cases h62 : c = 62
      · rw [if_neg (by subst h62; decide)]
        simp
      · rw [if_neg h62] at h0
        by_cases hd : dgZ c < 0
        · rw [if_pos hd] at h0
          exact absurd (show (4 : Int) = 0 from h0) (by decide)
        · rw [if_neg hd] at h0
          rw [if_pos (by unfold prB; rw [decide_eq_true (by omega), Bool.true_or])]
          by_cases hh : h < 0
          · rw [if_pos hh] at h0
            have := unhx_row M cs _ o h0
            simp; omega
          · rw [if_neg hh] at h0
            by_cases hM : M ≤ o.length
            · rw [if_pos hM] at h0
              exact absurd (show (7 : Int) = 0 from h0) (by decide)
            · rw [if_neg hM] at h0
              have := unhx_row M cs _ _ h0
              simp; omega
theorem unhx_cut (M : Nat) : ∀ (l : List Int) (h : Int) (o : List Int), unhxR M (l.take (rowZ prB l + 1)) h o = unhxR M l h o
  | [], _, _ => rfl
  | c :: cs, h, o => by
    rw [List.take_succ_cons, unhxR, unhxR]
    by_cases hw : whB c = true
    · rw [if_pos hw, if_pos hw, rowZ, if_pos (by unfold prB; rw [hw, Bool.or_true]), unhx_cut M cs h o]
    · rw [if_neg hw, if_neg hw]
      by_cases h62 : c = 62
      · rw [if_pos h62, if_pos h62]
      · rw [if_neg h62, if_neg h62]
        by_cases hd : dgZ c < 0
        · rw [if_pos hd, if_pos hd]
        · have hp : prB c = true := by unfold prB; rw [decide_eq_true (by omega), Bool.true_or]
          rw [if_neg hd, if_neg hd, rowZ, if_pos hp, unhx_cut M cs (dgZ c) o, unhx_cut M cs (-1) (o ++ [h * 16 + dgZ c])]

set_option maxHeartbeats 4000000 in
theorem pdigitsC (h g n c p B : Nat) (A : Option Addr) (zs : List Int) (w : World) (hx : LX w h g A n c p) (hb : Byt w B A n c zs) (hB : B ≤ g) (hn : n ≤ 900000) :
    Calls Try.prog 49 #[.pointer (some ⟨h, 0, none⟩)] w (TkP h g A n c ⟨(hexZ zs p).1, 3, 0, (hexZ zs p).2.1, (hexZ zs p).2.2⟩ w) := by
  have hle : p + rowZ prB (zs.drop p) ≤ n := by
    have := rowZ_le prB (zs.drop p)
    rw [List.length_drop, hb.len] at this
    have := hx.pl
    omega
  have hlen := hb.len
  have hpl := hx.pl
  have hbx := Bx.new w 28 (.int .i64 0) (.int .i64 0) (.int .i64 0) (.slice none 0 0)
  have hb0 : Below w.heap.size w (w.alloc (.cells (tkC 0 0 0 none 0 0) 28)) := (Below.refl w.heap.size w).alloc (Nat.le_refl _) _
  obtain ⟨W0, hW0⟩ : ∃ W0, w.alloc (.cells (tkC 0 0 0 none 0 0) 28) = W0 := ⟨_, rfl⟩
  have hs0 : W0.heap.size = w.heap.size + 1 := by rw [← hW0]; simp
  rw [show w.alloc (.cells #[.int .i64 0, .int .i64 0, .int .i64 0, .slice none 0 0] 28) = W0 from hW0] at hbx
  rw [hW0] at hb0
  have HW0 := Lib.hid (show w.alloc (.cells #[.int .i64 0, .int .i64 0, .int .i64 0, .slice none 0 0] 28) = W0 from hW0)
  have HBX := Lib.hid hbx
  have HB0 := Lib.hid hb0
  have HS0 := Lib.hid hs0
  have HO0 : Hid (Only g w W0) := Lib.hid (Only.of_below hb0 g)
  have hltg := hx.cu.lt
  have hlth := hx.lt
  have HX0 := Lib.hid (hx.below hb0 hlth hltg)
  have HBY0 := Lib.hid (hb.below hb0 (by omega))
  have HLT := Lib.hid (show g < w.heap.size ∧ h < w.heap.size from ⟨hltg, hlth⟩)
  clear hbx hb0 hW0 hs0 hltg hlth
  have hcut := unhx_cut 32767 (zs.drop p) (-1) []
  have hrow := unhx_row 32767 (zs.drop p) (-1) []
  unfold hexZ
  have HRO := Lib.hid (fun nq => prowC pairedF h g n c p B A zs (W0.drewN nq) (HX0.out.drewN nq) (HBY0.out.drewN nq) (by omega))
  have HLF := Lib.hid (fun nq => left_any g n c p A (W0.drewN nq) (HX0.out.cu.drewN nq) hpl (by omega))
  obtain ⟨m, hm⟩ : ∃ m, rowZ prB (zs.drop p) = m := ⟨_, rfl⟩
  rw [hm] at HRO hle hcut hrow ⊢
  rw [List.length_drop, hlen] at hrow
  obtain ⟨k, hk, hkn, hkm, htk⟩ : ∃ k : Nat, ((k : Int) = min ((m : Int) + 1) ((n : Int) - p)) ∧ p + k ≤ n ∧ k ≤ m + 1 ∧ (zs.drop p).take (m + 1) = (zs.drop p).take k := by
    by_cases h1 : p + m < n
    · exact ⟨m + 1, by omega, by omega, by omega, rfl⟩
    · refine ⟨m, by omega, by omega, by omega, ?_⟩
      rw [List.take_of_length_le (by rw [List.length_drop]; omega), List.take_of_length_le (by rw [List.length_drop]; omega)]
  rw [htk] at hcut
  have HTK := Lib.hid (fun nq => take_in g n c p k B A zs (W0.drewN nq) (HX0.out.cu.drewN nq) (HBY0.out.drewN nq) hkn (by omega) hB)
  obtain ⟨R, hR⟩ : ∃ R, unhxR 32767 (zs.drop p) (-1) [] = R := ⟨_, rfl⟩
  rw [hR] at hcut hrow ⊢
  have HUN := Lib.hid (fun (A' : Option Addr) (c' : Nat) (W : World) (hW : Byt W W.heap.size A' k c' ((zs.drop p).take k)) => pUnhex A' k c' 32767 ((zs.drop p).take k) W hW (by omega) (by omega) (by omega) R (by rw [← hcut]; rfl))
  have HLE := Lib.hid hkn
  have HROW := Lib.hid hrow
  have HKK := Lib.hid hk
  have HLN := Lib.hid hlen
  have k0 := HX0.out.k0
  have w1 : IntKind.i64.wrap ((m : Int) + 1) = (m : Int) + 1 := IntWalk.i64_in _ (by omega)
  have HMN := Lib.hid hle
  obtain ⟨ys, e⟩ := R
  have HMI : Hid ((if (m : Int) + 1 ≤ (n : Int) - p then (m : Int) + 1 else (n : Int) - p) = k) := Lib.hid (by split <;> omega)
  clear hx hb hm hR hle hcut hrow hk hlen hpl hkn htk hkm
  by_cases h7 : e = 7
  all_goals
    first
      | (have he : (e == 7) = true := beq_iff_eq.2 h7)
      | (have he : (e == 7) = false := beq_eq_false_iff_ne.2 h7)
    have H7 := Lib.hid h7
    clear h7
    go_enter Try.func49, Try.ntmps49
    go_upto_region 1 with fail
    rw [HW0.out]
    refine wp_region_heldR (fun w' => w'.cell? ⟨h, 0, none⟩ = some (.pointer (some ⟨g, 0, none⟩))) 1000 (by kernel_rfl) k0 (fun hHeld => ?_)
    refine wpAnyR_take 0 rfl (by kernel_rfl) (by kernel_rfl) (by kernel_rfl) (by kernel_rfl) (fun _ _ _ h => h) (by rfl) (v := ?_) ?_ (by assumption) ?_
    rotate_left
    focus
      intro wS hSw
      (try dsimp only at hSw)
      go_simp
      (try simp only [hSw])
      try with_reducible rfl
    intro hHeld
    try simp only [Act.put, List.setIfInBounds_toArray, List.set_cons_zero, List.set_cons_succ]
    refine wpAnyR_take 1 rfl (by kernel_rfl) (by kernel_rfl) (by kernel_rfl) (by kernel_rfl) (fun _ _ _ h => h) (by rfl) (v := ?_) ?_ (by assumption) ?_
    rotate_left
    focus
      intro wS hSw
      (try dsimp only at hSw)
      go_simp
      (try simp only [hSw])
      try with_reducible rfl
    intro hHeld
    try simp only [Act.put, List.setIfInBounds_toArray, List.set_cons_zero, List.set_cons_succ]
    refine wpAnyR_take 2 rfl (by kernel_rfl) (by kernel_rfl) (by kernel_rfl) (by kernel_rfl) (fun _ _ _ h => h) (by rfl) (v := ?_) ?_ (by assumption) ?_
    rotate_left
    focus
      intro wS hSw
      (try dsimp only at hSw)
      go_simp
      (try simp only [hSw])
      try with_reducible rfl
    intro hHeld
    try simp only [Act.put, List.setIfInBounds_toArray, List.set_cons_zero, List.set_cons_succ]
    refine wpAnyR_take 3 rfl (by kernel_rfl) (by kernel_rfl) (by kernel_rfl) (by kernel_rfl) (fun _ _ _ h => h) (by rfl) (v := ?_) ?_ (by assumption) ?_
    rotate_left
    focus
      intro wS hSw
      (try dsimp only at hSw)
      go_simp
      (try simp only [hSw])
      try with_reducible rfl
    intro hHeld
    try simp only [Act.put, List.setIfInBounds_toArray, List.set_cons_zero, List.set_cons_succ]
    refine wpAnyR_take 4 rfl (by kernel_rfl) (by kernel_rfl) (by kernel_rfl) (by kernel_rfl) (fun _ _ _ h => h) (by rfl) (v := ?_) ?_ (by assumption) ?_
    rotate_left
    focus
      intro wS hSw
      (try dsimp only at hSw)
      go_simp
      (try simp only [hSw])
      try with_reducible rfl
    intro hHeld
    try simp only [Act.put, List.setIfInBounds_toArray, List.set_cons_zero, List.set_cons_succ]
    refine wpAnyR_take 7 rfl (by kernel_rfl) (by kernel_rfl) (by kernel_rfl) (by kernel_rfl) (fun _ _ _ h => h) (by rfl) (v := ?_) ?_ (by assumption) ?_
    rotate_left
    focus
      intro wS hSw
      (try dsimp only at hSw)
      go_simp
      (try simp only [hSw])
      try with_reducible rfl
    intro hHeld
    try simp only [Act.put, List.setIfInBounds_toArray, List.set_cons_zero, List.set_cons_succ]
    refine wpAnyR_take 8 rfl (by kernel_rfl) (by kernel_rfl) (by kernel_rfl) (by kernel_rfl) (fun _ _ _ h => h) (by rfl) (v := ?_) ?_ (by assumption) ?_
    rotate_left
    focus
      intro wS hSw
      (try dsimp only at hSw)
      go_simp
      (try simp only [hSw])
      try with_reducible rfl
    intro hHeld
    try simp only [Act.put, List.setIfInBounds_toArray, List.set_cons_zero, List.set_cons_succ]
    refine wpAnyR_take 9 rfl (by kernel_rfl) (by kernel_rfl) (by kernel_rfl) (by kernel_rfl) (fun _ _ _ h => h) (by rfl) (v := ?_) ?_ (by assumption) ?_
    rotate_left
    focus
      intro wS hSw
      (try dsimp only at hSw)
      go_simp
      (try simp only [hSw])
      try with_reducible rfl
    intro hHeld
    try simp only [Act.put, List.setIfInBounds_toArray, List.set_cons_zero, List.set_cons_succ]
    refine wpAnyR_take 10 rfl (by kernel_rfl) (by kernel_rfl) (by kernel_rfl) (by kernel_rfl) (fun _ _ _ h => h) (by rfl) (v := ?_) ?_ (by assumption) ?_
    rotate_left
    focus
      intro wS hSw
      (try dsimp only at hSw)
      go_simp
      (try simp only [hSw])
      try with_reducible rfl
    intro hHeld
    try simp only [Act.put, List.setIfInBounds_toArray, List.set_cons_zero, List.set_cons_succ]
    refine wpAnyR_step 5 rfl (by kernel_rfl) (fun K hK => ?_)
    go_simp
    go_at_call 57
    refine (HRO.out 1).mono ?_
    rintro e w3 ⟨rfl, q3, rfl⟩
    refine hK.out _ _ (k0) (fun hHeld => ?_)
    clear hK K
    try simp only [Act.put, List.setIfInBounds_toArray, List.set_cons_zero, List.set_cons_succ]
    refine wpAnyR_take 6 rfl (by kernel_rfl) (by kernel_rfl) (by kernel_rfl) (by kernel_rfl) (fun _ _ _ h => h) (by rfl) (v := ?_) ?_ (by assumption) ?_
    rotate_left
    focus
      intro wS hSw
      (try dsimp only at hSw)
      go_simp
      (try simp only [hSw])
      try with_reducible rfl
    intro hHeld
    try simp only [Act.put, List.setIfInBounds_toArray, List.set_cons_zero, List.set_cons_succ]
    refine wpAnyR_step 11 rfl (by kernel_rfl) (fun K hK => ?_)
    go_simp
    go_at_call 55
    refine (HLF.out (1 + q3)).mono ?_
    rintro e w3 ⟨rfl, rfl⟩
    refine hK.out _ _ (k0) (fun hHeld => ?_)
    clear hK K
    try simp only [Act.put, List.setIfInBounds_toArray, List.set_cons_zero, List.set_cons_succ]
    refine wpAnyR_take 12 rfl (by kernel_rfl) (by kernel_rfl) (by kernel_rfl) (by kernel_rfl) (fun _ _ _ h => h) (by rfl) (v := ?_) ?_ (by assumption) ?_
    rotate_left
    focus
      intro wS hSw
      (try dsimp only at hSw)
      go_simp
      (try simp only [hSw])
      try with_reducible rfl
    intro hHeld
    try simp only [Act.put, List.setIfInBounds_toArray, List.set_cons_zero, List.set_cons_succ]
    rw [← HKK.out]
    refine wpAnyR_step 13 rfl (by kernel_rfl) (fun K hK => ?_)
    go_simp
    go_at_call 59
    refine (HTK.out (1 + q3)).mono ?_
    rintro e w4 ⟨A4, c4, rfl, hby4, hfr4, hc4, ho4⟩
    have HX4 := Lib.hid ((HX0.out.drewN (1 + q3)).moved hc4 ho4 HLE.out)
    have HO4 := Lib.hid ((HO0.out.drewN (1 + q3)).trans ho4)
    have HBX4 := Lib.hid ((HBX.out.drewN (1 + q3)).only ho4 (by have := HLT.out.1; omega))
    have HBY4 := Lib.hid hby4
    clear hby4 hfr4 hc4 ho4
    refine hK.out _ _ (HX4.out.k0) (fun hHeld => ?_)
    clear hK K
    try simp only [Act.put, List.setIfInBounds_toArray, List.set_cons_zero, List.set_cons_succ]
    refine wpAnyR_take 14 rfl (by kernel_rfl) (by kernel_rfl) (by kernel_rfl) (by kernel_rfl) (fun _ _ _ h => h) (by rfl) (v := ?_) ?_ (by assumption) ?_
    rotate_left
    focus
      intro wS hSw
      (try dsimp only at hSw)
      go_simp
      (try simp only [hSw])
      try with_reducible rfl
    intro hHeld
    try simp only [Act.put, List.setIfInBounds_toArray, List.set_cons_zero, List.set_cons_succ]
    refine wpAnyR_take 15 rfl (by kernel_rfl) (by kernel_rfl) (by kernel_rfl) (by kernel_rfl) (fun _ _ _ h => h) (by rfl) (v := ?_) ?_ (by assumption) ?_
    rotate_left
    focus
      intro wS hSw
      (try dsimp only at hSw)
      go_simp
      (try simp only [hSw])
      try with_reducible rfl
    intro hHeld
    try simp only [Act.put, List.setIfInBounds_toArray, List.set_cons_zero, List.set_cons_succ]
    refine wpAnyR_take 16 rfl (by kernel_rfl) (by kernel_rfl) (by kernel_rfl) (by kernel_rfl) (fun _ _ _ h => h) (by rfl) (v := ?_) ?_ (by assumption) ?_
    rotate_left
    focus
      intro wS hSw
      (try dsimp only at hSw)
      go_simp
      (try simp only [hSw])
      try with_reducible rfl
    intro hHeld
    try simp only [Act.put, List.setIfInBounds_toArray, List.set_cons_zero, List.set_cons_succ]
    refine wpAnyR_take 17 rfl (by kernel_rfl) (by kernel_rfl) (by kernel_rfl) (by kernel_rfl) (fun _ _ _ h => h) (by rfl) (v := ?_) ?_ (by assumption) ?_
    rotate_left
    focus
      intro wS hSw
      (try dsimp only at hSw)
      go_simp
      (try simp only [hSw])
      try with_reducible rfl
    intro hHeld
    try simp only [Act.put, List.setIfInBounds_toArray, List.set_cons_zero, List.set_cons_succ]
    refine wpAnyR_take 18 rfl (by kernel_rfl) (by kernel_rfl) (by kernel_rfl) (by kernel_rfl) (fun _ _ _ h => h) (by rfl) (v := ?_) ?_ (by assumption) ?_
    rotate_left
    focus
      intro wS hSw
      (try dsimp only at hSw)
      go_simp
      (try simp only [hSw])
      try with_reducible rfl
    intro hHeld
    try simp only [Act.put, List.setIfInBounds_toArray, List.set_cons_zero, List.set_cons_succ]
    refine wpAnyR_done (by kernel_rfl) ?_
    refine NoPanic.normal ?_
    have HBB := Lib.hid HBX4.out.lt
    go_wp2_with (go_at_call 66; refine (HUN.out A4 c4 w4 HBY4.out).mono ?_; (rintro r w5 ⟨A5, c5, rfl, hby5, hb5, hfr5⟩); have HX5 := Lib.hid (HX4.out.below hb5 HX4.out.lt HX4.out.cu.lt); have HO5 := Lib.hid (HO4.out.trans (Only.of_below hb5 g)); have HBX5 := Lib.hid (HBX4.out.below hb5 HBX4.out.lt); have HBY5 := Lib.hid hby5; have HFR5 := Lib.hid hfr5; have k0 := HBX5.out.c0; have k1 := HBX5.out.c1; have k2 := HBX5.out.c2; have k3 := HBX5.out.c3; have kf := HBX5.out.fr; clear hb5 hby5 hfr5)
    refine bodyPost_ret (results_cell_row_tmp rfl _ _ w.heap.size 28 _ (0, 0) _ rfl HBX5.out.set4_ Try.underlying28 rfl (by kernel_rfl) _ rfl) rfl ?_
    have hl := HLT.out
    try rw [if_pos H7.out]
    try rw [if_neg H7.out]
    first
      | (exact ⟨_, _, _, _, _, _, _, rfl, HX5.out.set4_ (by omega) (by omega), HO5.out.set4_ (Nat.le_refl _), fun h0 => absurd (show (3 : Int) = 0 from h0) (by decide)⟩)
      | (exact ⟨_, _, _, _, _, _, _, rfl, HX5.out.set4_ (by omega) (by omega), HO5.out.set4_ (Nat.le_refl _), fun h0 => ⟨rfl, rfl, (by have h1 := HROW.out h0; have h2 := HKK.out; show p + k = p + m + 1; omega), by rw [size_set4]; exact HBY5.out.set4_ HFR5.out HBB.out, fun h9 b o e => by have h1 := HFR5.out h9 b o e; have h2 := HBB.out; omega⟩⟩)
end Go.Proofs.Ytojbhckgegoldaa
