/- LexTokens: any bytes: token by token, to the end or the first that is none; where the reader stands. No condition on the input. -/
import Derived.Test.YtojbhckgegoldaaTk11
namespace Go.Proofs.Ytojbhckgegoldaa
open Go.ChangeShapes Go.WideShapes Go.ChangeAt Go.RowKit Go.Deep
set_option linter.unusedVariables false
set_option maxRecDepth 100000

/-- What the region reads. -/
def RS (W : World) (h g t u m : Nat) (k : Int) (bp : Nat) (v : Int) (q : Nat) (A4 : Option Addr) (m4 c4 : Nat) (A6 : Option Addr) (c6 : Nat) : Prop :=
  W.cell? ⟨h, 0, none⟩ = some (.pointer (some ⟨g, 0, none⟩)) ∧ W.cell? ⟨t, 0, none⟩ = some (.int .i64 k) ∧ W.cell? ⟨t, 1, none⟩ = some (.int .i64 bp) ∧ W.cell? ⟨t, 2, none⟩ = some (.int .i64 v) ∧ W.cell? ⟨t, 3, none⟩ = some (.slice A4 m4 c4) ∧
  W.cell? ⟨u, 0, none⟩ = some (.int .i64 k) ∧ W.cell? ⟨u, 1, none⟩ = some (.int .i64 bp) ∧ W.cell? ⟨u, 2, none⟩ = some (.int .i64 v) ∧ W.cell? ⟨u, 3, none⟩ = some (.slice A6 m4 c6) ∧ W.cell? ⟨m, 1, none⟩ = some (.int .i64 q)
theorem tokens_out (A : Option Addr) (n c : Nat) (w : World) (hn : n ≤ 9223372036854775807) (h : 800 < n) :
    Calls Try.prog 4 #[.slice A n c] w fun e w' => e = .returned (.bool true) ∧ Below w.heap.size w w' := by
  have HAW := Lib.hid (awake_any w)
  have g1 : (n : Int) > 800 := by omega
  go_enter Try.func4, Try.ntmps4
  go_wp2_with (first
    | (go_at_call 10; refine HAW.out.mono ?_; (rintro e w1 ⟨rfl, hb1⟩)))
  go_ret
  exact ⟨rfl, hb1⟩
set_option maxHeartbeats 8000000 in
theorem tokens_main (A : Option Addr) (n c : Nat) (zs : List Int) (w : World) (hz : Byt w w.heap.size A n c zs) (hn : n ≤ 800) :
    Calls Try.prog 4 #[.slice A n c] w fun e w' => e = .returned (.bool true) ∧ Below w.heap.size w w' := by
  have HAW := Lib.hid (awake_any w)
  have HZ := Lib.hid hz
  have HLN := Lib.hid hz.len
  have g1 : ¬ (n : Int) > 800 := by omega
  have HNEW := Lib.hid (fun W (hb : Below w.heap.size w W) => ls_new w W A n c zs ((hz.below hb (Nat.le_refl _)).more hb.size) hb)
  clear hz
  go_enter Try.func4, Try.ntmps4
  go_upto_region 7 with (first
    | (go_at_call 10; refine HAW.out.mono ?_; (rintro e w1 ⟨rfl, hb1⟩); have HB1 := Lib.hid hb1; clear hb1)
    | (go_at_call 11; refine (HNEW.out _ HB1.out).mono ?_; (rintro r w2 ⟨rfl, hl2, hs2, hb2⟩); have HL2 := Lib.hid hl2; have HS2 := Lib.hid hs2; clear hl2 hs2 hb2))
  have hal := (Below.refl w2.heap.size w2).alloc (Nat.le_refl _) (.cells #[.slice A n c, .int .i64 0] 34)
  have hbn := heap_alloc_new w2 (.cells #[.slice A n c, .int .i64 0] 34)
  obtain ⟨w3, hw3⟩ : ∃ w3, w2.alloc (.cells #[.slice A n c, .int .i64 0] 34) = w3 := ⟨_, rfl⟩
  rw [hw3] at hal hbn
  rw [hw3]
  have HQ0 := Lib.hid (show QS w w3 (w1.heap.size + 1) w1.heap.size w2.heap.size A n c 0 zs from ⟨HL2.out.low hal, ⟨hbn⟩, by have := HS2.out; omega⟩)
  obtain ⟨h, hh⟩ : ∃ h, w1.heap.size + 1 = h := ⟨_, rfl⟩
  obtain ⟨g, hg⟩ : ∃ g, w1.heap.size = g := ⟨_, rfl⟩
  obtain ⟨m, hm⟩ : ∃ m, w2.heap.size = m := ⟨_, rfl⟩
  rw [hm, hh, hg] at HQ0
  rw [hm, hh]
  clear hal hbn hw3 g1 hh hg hm HL2 HS2 HAW
  go_wp2_with fail
  go_loopw [5, 6, 7, 8, 9] (fun s5 s6 s7 s8 s9 wr => ∃ (i p : Nat), s5 = .int .i64 i ∧ Hid (QS w wr h g m A n c p zs) ∧ Hid (i ≤ p) ∧ Hid (p ≤ n)) (fun s5 _ _ _ _ _ => n + 2 - (intOf s5).toNat)
  case atStart => exact ⟨0, 0, rfl, HQ0, Lib.hid (Nat.le_refl _), Lib.hid (Nat.zero_le _)⟩
  case round =>
    obtain ⟨i, p, rfl, HQ, HI, HP⟩ := hrel
    have gi : (i : Int) ≤ (n : Int) + 1 := by have := HI.out; have := HP.out; omega
    have HT1 := Lib.hid (ls_tok (by omega) HQ.out.ls rfl rfl)
    have HGE := Lib.hid (fun h0 hk => tokT_ge zs p (by rw [HLN.out]; exact HP.out) h0 hk)
    have HT2 := Lib.hid (fun W (hl : LD W m 34 [] A n c p) (hb : Byt W g A n c zs) => rtokC m n c p g 34 [] A zs W hl hb (Nat.le_of_lt HQ.out.gm.1) (by omega) HP.out)
    obtain ⟨⟨e, k, v, b, q⟩, hT⟩ : ∃ t, tokT zs p = t := ⟨_, rfl⟩
    obtain ⟨bp, hbp⟩ : ∃ bp, blkP zs p = bp := ⟨_, rfl⟩
    rw [hT] at HGE
    rw [hT, hbp] at HT1 HT2
    have HLB := Lib.hid (show b.length ≤ 1000000 by have := tokT_len zs p; rw [hT] at this; exact this)
    clear hT hbp
    have hdn : (e != e) = false := bne_self_eq_false e
    go_upto_region 13 with (first
      | (go_at_call 12; refine HT1.out.mono ?_; (rintro r w4 ⟨A4, m4, c4, rfl, hl4, ho4, hy4, hf4⟩); have HL4 := Lib.hid hl4; have HO4 := Lib.hid ho4; have HY4 := Lib.hid hy4; have HF4 := Lib.hid hf4; have HD4 := Lib.hid (HQ.out.ld.only ho4 (by have := HQ.out.gm; omega)); clear hl4 ho4 hy4 hf4))
    have hb5 := (Below.refl w4.heap.size w4).alloc (Nat.le_refl _) (.cells #[.int .i64 k, .int .i64 (bp : Int), .int .i64 v, .slice A4 m4 c4] 28)
    have hx5 := Bx.new w4 28 (.int .i64 k) (.int .i64 (bp : Int)) (.int .i64 v) (.slice A4 m4 c4)
    obtain ⟨w5, hw5⟩ : ∃ w5, w4.alloc (.cells #[.int .i64 k, .int .i64 (bp : Int), .int .i64 v, .slice A4 m4 c4] 28) = w5 := ⟨_, rfl⟩
    have hs5 : w5.heap.size = w4.heap.size + 1 := by rw [← hw5]; simp
    rw [hw5] at hb5 hx5
    rw [hw5]
    have HMW := Lib.hid HQ.out.ld.lt
    have HB5 := Lib.hid hb5
    have HX5 := Lib.hid hx5
    have HS5 := Lib.hid hs5
    have HL5 := Lib.hid (HL4.out.low hb5)
    have HY5 := Lib.hid (HY4.out.below hb5 (Nat.le_refl _))
    have HD5 := Lib.hid (HD4.out.below hb5 HD4.out.lt)
    have HC2 := Lib.hid (HT2.out w5 HD5.out HL5.out.bt)
    clear hb5 hx5 hw5 hs5 HL4 HY4 HD4 HT1 HT2
    go_upto_region 14 with (first
      | (go_at_call 13; refine HC2.out.mono ?_; (rintro r w6 ⟨A6, m6, c6, rfl, hd6, ho6, hy6, hf6⟩); have HD6 := Lib.hid hd6; have HO6 := Lib.hid ho6; have HY6 := Lib.hid hy6; clear hd6 ho6 hy6 hf6))
    have hb7 := (Below.refl w6.heap.size w6).alloc (Nat.le_refl _) (.cells #[.int .i64 k, .int .i64 (bp : Int), .int .i64 v, .slice A6 m6 c6] 35)
    have hx7 := Bx.new w6 35 (.int .i64 k) (.int .i64 (bp : Int)) (.int .i64 v) (.slice A6 m6 c6)
    obtain ⟨w7, hw7⟩ : ∃ w7, w6.alloc (.cells #[.int .i64 k, .int .i64 (bp : Int), .int .i64 v, .slice A6 m6 c6] 35) = w7 := ⟨_, rfl⟩
    have hs7 : w7.heap.size = w6.heap.size + 1 := by rw [← hw7]; simp
    rw [hw7] at hb7 hx7
    rw [hw7]
    have hz1 : m < wr.heap.size := HMW.out
    have hz2 : wr.heap.size ≤ w4.heap.size := HO4.out.size
    have hz3 : w5.heap.size = w4.heap.size + 1 := HS5.out
    have hz4 : w5.heap.size ≤ w6.heap.size := HO6.out.size
    have hzg := HQ.out.gm
    have HL7 := Lib.hid ((HL5.out.onlyM HO6.out hzg.1 hzg.2 (by omega)).low hb7)
    have hbt := (HX5.out.only HO6.out (by omega)).below hb7 (by omega)
    have HY4 := Lib.hid (((HY5.out.onlyF HO6.out HF4.out hz1 (by omega)).below hb7 (by omega)).more (show w4.heap.size ≤ w7.heap.size by omega))
    have HY7 := Lib.hid ((HY6.out.below hb7 (Nat.le_refl _)).more (show w6.heap.size ≤ w7.heap.size by omega))
    have HD7 := Lib.hid (HD6.out.below hb7 HD6.out.lt)
    obtain rfl : m4 = m6 := HY4.out.len.symm.trans HY7.out.len
    have HML : Hid (m4 ≤ 1000000) := Lib.hid (by have := HY4.out.len; have := HLB.out; omega)
    have HH7 := Lib.hid (show h < w7.heap.size ∧ m < w7.heap.size ∧ w4.heap.size < w7.heap.size ∧ w6.heap.size < w7.heap.size by omega)
    have HBT := Lib.hid hbt
    have HBU := Lib.hid hx7
    obtain ⟨t, ht⟩ : ∃ t, w4.heap.size = t := ⟨_, rfl⟩
    obtain ⟨u, hu⟩ : ∃ u, w6.heap.size = u := ⟨_, rfl⟩
    rw [ht] at HBT HH7
    rw [hu] at HBU HH7
    (try rw [ht])
    (try rw [hu])
    clear hb7 hx7 hw7 hs7 hz1 hz2 hz3 hz4 hzg hbt HY5 HY6 HX5 HO6 HO4 HF4 HL5 HD5 HD6 HC2 HB5 HS5 ht hu
    have hS : ∀ W, Below w7.heap.size w7 W → RS W h g t u m k bp v q A4 m4 c4 A6 c6 := fun W hb =>
      ⟨(HL7.out.low hb).lx.k0, (HBT.out.below hb HH7.out.2.2.1).c0, (HBT.out.below hb HH7.out.2.2.1).c1, (HBT.out.below hb HH7.out.2.2.1).c2, (HBT.out.below hb HH7.out.2.2.1).c3, (HBU.out.below hb HH7.out.2.2.2).c0, (HBU.out.below hb HH7.out.2.2.2).c1, (HBU.out.below hb HH7.out.2.2.2).c2, (HBU.out.below hb HH7.out.2.2.2).c3, (HD7.out.below hb HH7.out.2.1).c1⟩
    have HSW := Lib.hid hS
    clear hS
    refine wp_region_heldR (fun W => RS W h g t u m k bp v q A4 m4 c4 A6 c6) 1000 (by kernel_rfl) (HSW.out _ (Below.refl _ _).drew) (fun hHeld => ?_)
    refine wpAnyR_take 0 rfl (by kernel_rfl) (by kernel_rfl) (by kernel_rfl) (by kernel_rfl) (fun _ _ _ h => h) (by rfl) (v := ?_) ?_ (by assumption) ?_
    rotate_left
    focus
      intro wS hSw
      obtain ⟨s0, s1, s2, s3, s4, s5, s6, s7, s8, s9⟩ := hSw
      go_simp
      (try simp only [s0, s1, s2, s3, s4, s5, s6, s7, s8, s9])
      (try simp only [bne_self_eq_false])
      try with_reducible rfl
    intro hHeld
    try simp only [Act.put, List.setIfInBounds_toArray, List.set_cons_zero, List.set_cons_succ]
    refine wpAnyR_take 1 rfl (by kernel_rfl) (by kernel_rfl) (by kernel_rfl) (by kernel_rfl) (fun _ _ _ h => h) (by rfl) (v := ?_) ?_ (by assumption) ?_
    rotate_left
    focus
      intro wS hSw
      obtain ⟨s0, s1, s2, s3, s4, s5, s6, s7, s8, s9⟩ := hSw
      go_simp
      (try simp only [s0, s1, s2, s3, s4, s5, s6, s7, s8, s9])
      (try simp only [bne_self_eq_false])
      try with_reducible rfl
    intro hHeld
    try simp only [Act.put, List.setIfInBounds_toArray, List.set_cons_zero, List.set_cons_succ]
    refine wpAnyR_take 2 rfl (by kernel_rfl) (by kernel_rfl) (by kernel_rfl) (by kernel_rfl) (fun _ _ _ h => h) (by rfl) (v := ?_) ?_ (by assumption) ?_
    rotate_left
    focus
      intro wS hSw
      obtain ⟨s0, s1, s2, s3, s4, s5, s6, s7, s8, s9⟩ := hSw
      go_simp
      (try simp only [s0, s1, s2, s3, s4, s5, s6, s7, s8, s9])
      (try simp only [bne_self_eq_false])
      try with_reducible rfl
    intro hHeld
    try simp only [Act.put, List.setIfInBounds_toArray, List.set_cons_zero, List.set_cons_succ]
    refine wpAnyR_take 3 rfl (by kernel_rfl) (by kernel_rfl) (by kernel_rfl) (by kernel_rfl) (fun _ _ _ h => h) (by rfl) (v := ?_) ?_ (by assumption) ?_
    rotate_left
    focus
      intro wS hSw
      obtain ⟨s0, s1, s2, s3, s4, s5, s6, s7, s8, s9⟩ := hSw
      go_simp
      (try simp only [s0, s1, s2, s3, s4, s5, s6, s7, s8, s9])
      (try simp only [bne_self_eq_false])
      try with_reducible rfl
    intro hHeld
    try simp only [Act.put, List.setIfInBounds_toArray, List.set_cons_zero, List.set_cons_succ]
    refine wpAnyR_take 4 rfl (by kernel_rfl) (by kernel_rfl) (by kernel_rfl) (by kernel_rfl) (fun _ _ _ h => h) (by rfl) (v := ?_) ?_ (by assumption) ?_
    rotate_left
    focus
      intro wS hSw
      obtain ⟨s0, s1, s2, s3, s4, s5, s6, s7, s8, s9⟩ := hSw
      go_simp
      (try simp only [s0, s1, s2, s3, s4, s5, s6, s7, s8, s9])
      (try simp only [bne_self_eq_false])
      try with_reducible rfl
    intro hHeld
    try simp only [Act.put, List.setIfInBounds_toArray, List.set_cons_zero, List.set_cons_succ]
    refine wpAnyR_take 6 rfl (by kernel_rfl) (by kernel_rfl) (by kernel_rfl) (by kernel_rfl) (fun _ _ _ h => h) (by rfl) (v := ?_) ?_ (by assumption) ?_
    rotate_left
    focus
      intro wS hSw
      obtain ⟨s0, s1, s2, s3, s4, s5, s6, s7, s8, s9⟩ := hSw
      go_simp
      (try simp only [s0, s1, s2, s3, s4, s5, s6, s7, s8, s9])
      (try simp only [bne_self_eq_false])
      try with_reducible rfl
    intro hHeld
    try simp only [Act.put, List.setIfInBounds_toArray, List.set_cons_zero, List.set_cons_succ]
    clear hHeld
    refine wpAnyR_step 5 rfl (by kernel_rfl) (fun K hK => ?_)
    go_simp
    go_at_call 15
    refine (ltokenC k bp v A4 m4 c4 w7.drew).mono ?_
    rintro r w8 ⟨rfl, hb8⟩
    have HB8 := Lib.hid (((Below.refl w7.heap.size w7).drew).trans hb8)
    clear hb8
    refine hK.out _ _ (HSW.out _ HB8.out) (fun hHeld => ?_)
    clear hK K
    try simp only [Act.put, List.setIfInBounds_toArray, List.set_cons_zero, List.set_cons_succ]
    have HSM := Lib.hid (lsameC k bp v A4 A6 m4 c4 c6 b w8 ((HY4.out.below HB8.out (Nat.le_refl _)).more HB8.out.size) ((HY7.out.below HB8.out (Nat.le_refl _)).more HB8.out.size) HML.out)
    clear hHeld
    refine wpAnyR_step 7 rfl (by kernel_rfl) (fun K hK => ?_)
    go_simp
    go_at_call 14
    refine HSM.out.mono ?_
    rintro r w9 ⟨rfl, hb9⟩
    have HB9 := Lib.hid (HB8.out.trans (hb9.mono HB8.out.size))
    clear hb9 HB8 HSM
    refine hK.out _ _ (HSW.out _ HB9.out) (fun hHeld => ?_)
    clear hK K
    try simp only [Act.put, List.setIfInBounds_toArray, List.set_cons_zero, List.set_cons_succ]
    refine wpAnyR_take 8 rfl (by kernel_rfl) (by kernel_rfl) (by kernel_rfl) (by kernel_rfl) (fun _ _ _ h => h) (by rfl) (v := ?_) ?_ (by assumption) ?_
    rotate_left
    focus
      intro wS hSw
      obtain ⟨s0, s1, s2, s3, s4, s5, s6, s7, s8, s9⟩ := hSw
      go_simp
      (try simp only [s0, s1, s2, s3, s4, s5, s6, s7, s8, s9])
      (try simp only [bne_self_eq_false])
      try with_reducible rfl
    intro hHeld
    try simp only [Act.put, List.setIfInBounds_toArray, List.set_cons_zero, List.set_cons_succ]
    refine wpAnyR_take 9 rfl (by kernel_rfl) (by kernel_rfl) (by kernel_rfl) (by kernel_rfl) (fun _ _ _ h => h) (by rfl) (v := ?_) ?_ (by assumption) ?_
    rotate_left
    focus
      intro wS hSw
      obtain ⟨s0, s1, s2, s3, s4, s5, s6, s7, s8, s9⟩ := hSw
      go_simp
      (try simp only [s0, s1, s2, s3, s4, s5, s6, s7, s8, s9])
      (try simp only [bne_self_eq_false])
      try with_reducible rfl
    intro hHeld
    try simp only [Act.put, List.setIfInBounds_toArray, List.set_cons_zero, List.set_cons_succ]
    refine wpAnyR_take 10 rfl (by kernel_rfl) (by kernel_rfl) (by kernel_rfl) (by kernel_rfl) (fun _ _ _ h => h) (by rfl) (v := ?_) ?_ (by assumption) ?_
    rotate_left
    focus
      intro wS hSw
      obtain ⟨s0, s1, s2, s3, s4, s5, s6, s7, s8, s9⟩ := hSw
      go_simp
      (try simp only [s0, s1, s2, s3, s4, s5, s6, s7, s8, s9])
      (try simp only [bne_self_eq_false])
      try with_reducible rfl
    intro hHeld
    try simp only [Act.put, List.setIfInBounds_toArray, List.set_cons_zero, List.set_cons_succ]
    refine wpAnyR_take 11 rfl (by kernel_rfl) (by kernel_rfl) (by kernel_rfl) (by kernel_rfl) (fun _ _ _ h => h) (by rfl) (v := ?_) ?_ (by assumption) ?_
    rotate_left
    focus
      intro wS hSw
      obtain ⟨s0, s1, s2, s3, s4, s5, s6, s7, s8, s9⟩ := hSw
      go_simp
      (try simp only [s0, s1, s2, s3, s4, s5, s6, s7, s8, s9])
      (try simp only [bne_self_eq_false])
      try with_reducible rfl
    intro hHeld
    try simp only [Act.put, List.setIfInBounds_toArray, List.set_cons_zero, List.set_cons_succ]
    refine wpAnyR_take 12 rfl (by kernel_rfl) (by kernel_rfl) (by kernel_rfl) (by kernel_rfl) (fun _ _ _ h => h) (by rfl) (v := ?_) ?_ (by assumption) ?_
    rotate_left
    focus
      intro wS hSw
      obtain ⟨s0, s1, s2, s3, s4, s5, s6, s7, s8, s9⟩ := hSw
      go_simp
      (try simp only [s0, s1, s2, s3, s4, s5, s6, s7, s8, s9])
      (try simp only [bne_self_eq_false])
      try with_reducible rfl
    intro hHeld
    try simp only [Act.put, List.setIfInBounds_toArray, List.set_cons_zero, List.set_cons_succ]
    refine wpAnyR_take 13 rfl (by kernel_rfl) (by kernel_rfl) (by kernel_rfl) (by kernel_rfl) (fun _ _ _ h => h) (by rfl) (v := ?_) ?_ (by assumption) ?_
    rotate_left
    focus
      intro wS hSw
      obtain ⟨s0, s1, s2, s3, s4, s5, s6, s7, s8, s9⟩ := hSw
      go_simp
      (try simp only [s0, s1, s2, s3, s4, s5, s6, s7, s8, s9])
      (try simp only [bne_self_eq_false])
      try with_reducible rfl
    intro hHeld
    try simp only [Act.put, List.setIfInBounds_toArray, List.set_cons_zero, List.set_cons_succ]
    refine wpAnyR_take 14 rfl (by kernel_rfl) (by kernel_rfl) (by kernel_rfl) (by kernel_rfl) (fun _ _ _ h => h) (by rfl) (v := ?_) ?_ (by assumption) ?_
    rotate_left
    focus
      intro wS hSw
      obtain ⟨s0, s1, s2, s3, s4, s5, s6, s7, s8, s9⟩ := hSw
      go_simp
      (try simp only [s0, s1, s2, s3, s4, s5, s6, s7, s8, s9])
      (try simp only [bne_self_eq_false])
      try with_reducible rfl
    intro hHeld
    try simp only [Act.put, List.setIfInBounds_toArray, List.set_cons_zero, List.set_cons_succ]
    refine wpAnyR_take 16 rfl (by kernel_rfl) (by kernel_rfl) (by kernel_rfl) (by kernel_rfl) (fun _ _ _ h => h) (by rfl) (v := ?_) ?_ (by assumption) ?_
    rotate_left
    focus
      intro wS hSw
      obtain ⟨s0, s1, s2, s3, s4, s5, s6, s7, s8, s9⟩ := hSw
      go_simp
      (try simp only [s0, s1, s2, s3, s4, s5, s6, s7, s8, s9])
      (try simp only [bne_self_eq_false])
      try with_reducible rfl
    intro hHeld
    try simp only [Act.put, List.setIfInBounds_toArray, List.set_cons_zero, List.set_cons_succ]
    refine wpAnyR_take 17 rfl (by kernel_rfl) (by kernel_rfl) (by kernel_rfl) (by kernel_rfl) (fun _ _ _ h => h) (by rfl) (v := ?_) ?_ (by assumption) ?_
    rotate_left
    focus
      intro wS hSw
      obtain ⟨s0, s1, s2, s3, s4, s5, s6, s7, s8, s9⟩ := hSw
      go_simp
      (try simp only [s0, s1, s2, s3, s4, s5, s6, s7, s8, s9])
      (try simp only [bne_self_eq_false])
      try with_reducible rfl
    intro hHeld
    try simp only [Act.put, List.setIfInBounds_toArray, List.set_cons_zero, List.set_cons_succ]
    refine wpAnyR_take 18 rfl (by kernel_rfl) (by kernel_rfl) (by kernel_rfl) (by kernel_rfl) (fun _ _ _ h => h) (by rfl) (v := ?_) ?_ (by assumption) ?_
    rotate_left
    focus
      intro wS hSw
      obtain ⟨s0, s1, s2, s3, s4, s5, s6, s7, s8, s9⟩ := hSw
      go_simp
      (try simp only [s0, s1, s2, s3, s4, s5, s6, s7, s8, s9])
      (try simp only [bne_self_eq_false])
      try with_reducible rfl
    intro hHeld
    try simp only [Act.put, List.setIfInBounds_toArray, List.set_cons_zero, List.set_cons_succ]
    refine wpAnyR_take 19 rfl (by kernel_rfl) (by kernel_rfl) (by kernel_rfl) (by kernel_rfl) (fun _ _ _ h => h) (by rfl) (v := ?_) ?_ (by assumption) ?_
    rotate_left
    focus
      intro wS hSw
      obtain ⟨s0, s1, s2, s3, s4, s5, s6, s7, s8, s9⟩ := hSw
      go_simp
      (try simp only [s0, s1, s2, s3, s4, s5, s6, s7, s8, s9])
      (try simp only [bne_self_eq_false])
      try with_reducible rfl
    intro hHeld
    try simp only [Act.put, List.setIfInBounds_toArray, List.set_cons_zero, List.set_cons_succ]
    have HPO := Lib.hid (pos_any g n c q A w9 (HL7.out.low HB9.out).lx.cu)
    refine wpAnyR_step 15 rfl (by kernel_rfl) (fun K hK => ?_)
    go_simp
    go_at_call 16
    refine HPO.out.mono ?_
    rintro r w10 ⟨rfl, rfl⟩
    refine hK.out _ _ (HSW.out _ HB9.out) (fun hHeld => ?_)
    clear hK K
    try simp only [Act.put, List.setIfInBounds_toArray, List.set_cons_zero, List.set_cons_succ]
    have hqn : ((q : Int) != (q : Int)) = false := bne_self_eq_false _
    refine wpAnyR_take 20 rfl (by kernel_rfl) (by kernel_rfl) (by kernel_rfl) (by kernel_rfl) (fun _ _ _ h => h) (by rfl) (v := ?_) ?_ (by assumption) ?_
    rotate_left
    focus
      intro wS hSw
      obtain ⟨s0, s1, s2, s3, s4, s5, s6, s7, s8, s9⟩ := hSw
      go_simp
      (try simp only [s0, s1, s2, s3, s4, s5, s6, s7, s8, s9])
      (try simp only [bne_self_eq_false])
      try with_reducible rfl
    intro hHeld
    try simp only [Act.put, List.setIfInBounds_toArray, List.set_cons_zero, List.set_cons_succ]
    refine wpAnyR_take 21 rfl (by kernel_rfl) (by kernel_rfl) (by kernel_rfl) (by kernel_rfl) (fun _ _ _ h => h) (by rfl) (v := ?_) ?_ (by assumption) ?_
    rotate_left
    focus
      intro wS hSw
      obtain ⟨s0, s1, s2, s3, s4, s5, s6, s7, s8, s9⟩ := hSw
      go_simp
      (try simp only [s0, s1, s2, s3, s4, s5, s6, s7, s8, s9])
      (try simp only [bne_self_eq_false])
      try with_reducible rfl
    intro hHeld
    try simp only [Act.put, List.setIfInBounds_toArray, List.set_cons_zero, List.set_cons_succ]
    refine wpAnyR_done (by kernel_rfl) ?_
    refine NoPanic.normal ?_
    have u0 := (HBU.out.below HB9.out HH7.out.2.2.2).c0
    have HRT := Lib.hid (HL7.out.low HB9.out).bl
    have HQ9 := Lib.hid (show QS w w9 h g m A n c q zs from ⟨HL7.out.low HB9.out, HD7.out.below HB9.out HH7.out.2.1, HQ.out.gm⟩)
    clear hHeld HPO hqn hdn HSW HBU HBT HY4 HY7 HL7 HD7 HQ HB9
    by_cases he : e = 0
    · by_cases hk : k = 0
      · subst he hk
        go_wp2_with fail
        go_ret
        exact ⟨rfl, HRT.out⟩
      · have HPQ := Lib.hid (HGE.out he hk)
        subst he
        go_wp2_with fail
        go_roundw
        case rel => exact ⟨i + 1, q, by go_num, HQ9, Lib.hid (by have := HI.out; have := HPQ.out; omega), Lib.hid HQ9.out.ls.lx.pl⟩
        case measure =>
          have := HI.out
          have := HP.out
          simp [intOf]
          omega
    · go_wp2_with fail
      go_ret
      exact ⟨rfl, HRT.out⟩

theorem tokens_walk (A : Option Addr) (n c : Nat) (zs : List Int) (w : World) (hz : Byt w w.heap.size A n c zs) (hn : n ≤ 9223372036854775807) :
    Calls Try.prog 4 #[.slice A n c] w fun e w' => e = .returned (.bool true) ∧ Below w.heap.size w w' := by
  by_cases h : n ≤ 800
  · exact tokens_main A n c zs w hz h
  · exact tokens_out A n c w hn (by omega)
set_option maxRecDepth 100000 in
theorem tokens_lifted (os : Os) (started : os.Started) (H : Type) (enc : TypeId × Value → H) :
    ReturnsInHanded {} Try.checked os 4 .any (Rows.lexTokensSpec.pre6 enc Try.prog Try.f4 Rows.lexTokensRow.domain false) (Rows.lexTokensSpec.post enc Try.prog Try.f4 false true false false) := by
  refine returnsInHanded_of_change (C := Try.checked) own started (by kernel_rfl) Try.func4
    (ChangeSpec.witness6 (enc := enc) (C := Try.checked) false ⟨#[], #[.slice none 0 0], []⟩ 8 (by kernel_rfl) (by kernel_rfl) (by kernel_rfl) (by kernel_rfl)) ?_
  intro W base args ds gs before hval0 hW hcnd _
  have hval : ∀ (j : Nat) t v, Try.f4.params[j]? = some t → args[j]? = some v → Value.okWide Try.prog W .any base t v := hval0
  have hW' := hW
  obtain ⟨p, q, hA0, hV, rfl, hfz, hnd⟩ := hW
  have hA : DataW.TrodAll enc Try.prog W 0 (fun _ => true) true Try.f4.params.toList args.toList ds p := hA0
  rw [Try.params4] at hA hval
  obtain ⟨v0, vs0, d0, ds0, p0, q0, hargs, rfl, rfl, h0, r0⟩ := trodAll_cons hA
  obtain ⟨rfl, rfl, rfl⟩ := trodAll_nil r0
  obtain rfl : args = #[v0] := by cases args; simp_all
  obtain ⟨rfl, rfl⟩ := trodVars_none hV
  obtain ⟨a0, len0, cap0, rfl⟩ := okWide_slice Try.underlying25 (hval 0 25 v0 rfl rfl)
  obtain ⟨zs0, hz0, hcm0⟩ := open_bytes h0 (fun _ => rfl)
  have lt0 : ∀ x ∈ p0, x.block < W.heap.size := by obtain ⟨m, hm⟩ := h0; exact DataW.trod_lt m _ _ _ hm
  have hmx : maxLen = 9223372036854775807 := by decide
  clear hA0 hval0
  refine (tokens_walk a0 len0 cap0 zs0 W hz0 (by have := hz0.cap; omega)).mono fun e W' ⟨he, bel⟩ => ?_
  subst he
  exact ⟨_, rfl, _, _, _, [], _, [], hW', trodAll_mk1 (shut_bool Try.underlying4 _), (trodAll_cons_mk (Below.trod laidOut (by kernel_rfl) (of_decide_eq_true (by kernel_rfl)) h0 bel lt0) trodAll_mk0), rfl, bel.frame _, fun h => by cases h⟩

/-- LexTokens: it answers true. -/
theorem tokens_holds : Rows.LexTokensSaid :=
  OpenClaim.holds_of_wide 4 Try.f4 rfl rfl rfl rfl rfl rfl rfl ⟨rfl, rfl, rfl, rfl, rfl⟩ rfl rfl rfl rfl rfl (by kernel_rfl) Try.func4 (by kernel_rfl)
    (of_decide_eq_true (by kernel_rfl)) (by unfold Func.isWrapper; first | (rw [if_pos (by decide +kernel)]; kernel_rfl) | (rw [if_neg (by decide +kernel)]; exact ⟨rfl, rfl⟩))
    (fun os started H enc _ => tokens_lifted os started H enc)
#print axioms tokens_holds

end Go.Proofs.Ytojbhckgegoldaa
