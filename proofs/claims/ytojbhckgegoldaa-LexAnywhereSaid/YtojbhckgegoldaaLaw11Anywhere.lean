/- LexAnywhere: from any place on: the token there, what a keyword passes, where blanks end. No condition on the input. -/
import Derived.Test.YtojbhckgegoldaaTk11
import Derived.Test.YtojbhckgegoldaaKw11
namespace Go.Proofs.Ytojbhckgegoldaa
open Go.ChangeShapes Go.WideShapes Go.ChangeAt Go.RowKit Go.Deep
set_option linter.unusedVariables false
set_option maxRecDepth 100000

/-- What the region reads. -/
def RSA (W : World) (h g t u m : Nat) (k : Int) (bp : Nat) (v : Int) (q : Nat) (A4 : Option Addr) (m4 c4 : Nat) (A6 : Option Addr) (c6 : Nat) : Prop :=
  W.cell? ⟨h, 0, none⟩ = some (.pointer (some ⟨g, 0, none⟩)) ∧ W.cell? ⟨t, 0, none⟩ = some (.int .i64 k) ∧ W.cell? ⟨t, 1, none⟩ = some (.int .i64 bp) ∧ W.cell? ⟨t, 2, none⟩ = some (.int .i64 v) ∧ W.cell? ⟨t, 3, none⟩ = some (.slice A4 m4 c4) ∧
  W.cell? ⟨u, 0, none⟩ = some (.int .i64 k) ∧ W.cell? ⟨u, 1, none⟩ = some (.int .i64 bp) ∧ W.cell? ⟨u, 2, none⟩ = some (.int .i64 v) ∧ W.cell? ⟨u, 3, none⟩ = some (.slice A6 m4 c6) ∧ W.cell? ⟨m, 1, none⟩ = some (.int .i64 q)
theorem wpAnyR_sharp {P : Program} {ops : Array Oper} {Q : Exit → Act → World → Prop} {md : Region.Mode} {S S' : World → Prop} {L : Nat} (hS : ∀ w, S' w → S w) :
    ∀ (fuel : Nat) (listed : Array Bool) (a : Act) (w : World), wpAnyR P md ops Q S' L fuel listed a w → wpAnyR P md ops Q S L fuel listed a w
  | 0, _, _, _, h => h
  | fuel + 1, _, _, _, h => ⟨h.1, fun i hi => wpOp_mono (fun a' w' h' => ⟨fun hL => hS _ (h'.1 hL), wpAnyR_sharp hS fuel _ a' w' h'.2⟩) (h.2 i hi)⟩
theorem rem_in (x : Int) (n : Nat) (h0 : 0 < n) (hn : n ≤ 500) : ∃ k : Nat, (wrap64 (x.tmod n + n)).tmod n = (k : Int) ∧ k ≤ n := by
  have h1 := Int.tmod_lt_of_pos x (show (0 : Int) < n by omega)
  have h2 := Int.lt_tmod_of_pos x (show (0 : Int) < n by omega)
  have e : wrap64 (x.tmod n + n) = x.tmod n + n := IntWalk.wrap64_in _ (by omega)
  rw [e]
  have h3 : 0 ≤ (x.tmod n + n).tmod n := Int.tmod_nonneg (n : Int) (by omega)
  have h4 := Int.tmod_lt_of_pos (x.tmod n + n) (show (0 : Int) < n by omega)
  exact ⟨((x.tmod n + n).tmod n).toNat, by omega, by omega⟩
theorem anyw_out (A : Option Addr) (n c : Nat) (x : Int) (s : ByteArray) (w : World) (hn : n ≤ 9223372036854775807) (h : 500 < n ∨ 50 < s.size) :
    Calls Try.prog 5 #[.slice A n c, .int .i64 x, .string s] w fun e w' => e = .returned (.bool true) ∧ Below w.heap.size w w' := by
  have HAW := Lib.hid (awake_any w)
  by_cases h1 : 500 < n
  · have g1 : (n : Int) > 500 := by omega
    go_enter Try.func5, Try.ntmps5
    go_wp2_with (first
      | (go_at_call 10; refine HAW.out.mono ?_; (rintro e w1 ⟨rfl, hb1⟩)))
    go_ret
    exact ⟨rfl, hb1⟩
  · have g1 : ¬ (n : Int) > 500 := by omega
    have g2 : (s.size : Int) > 50 := by omega
    go_enter Try.func5, Try.ntmps5
    go_wp2_with (first
      | (go_at_call 10; refine HAW.out.mono ?_; (rintro e w1 ⟨rfl, hb1⟩)))
    go_ret
    exact ⟨rfl, hb1⟩
set_option maxHeartbeats 8000000 in
theorem anyw_pos (A : Option Addr) (n c : Nat) (x : Int) (s : ByteArray) (zs : List Int) (w : World) (hz : Byt w w.heap.size A n c zs) (hn : n ≤ 500) (hs : s.size ≤ 50) (x0 : -9223372036854775808 ≤ x) (x1 : x ≤ 9223372036854775807) (hpos : 0 < n) :
    Calls Try.prog 5 #[.slice A n c, .int .i64 x, .string s] w fun e w' => e = .returned (.bool true) ∧ Below w.heap.size w w' := by
  have HAW := Lib.hid (awake_any w)
  have HLN := Lib.hid hz.len
  have g1 : ¬ (n : Int) > 500 := by omega
  have g2 : ¬ (s.size : Int) > 50 := by omega
  have HNEW := Lib.hid (fun W (hb : Below w.heap.size w W) => ls_new w W A n c zs ((hz.below hb (Nat.le_refl _)).more hb.size) hb)
  clear hz
  have g3 : (n : Int) > 0 := by omega
  have g4 : (n : Int) ≠ 0 := by omega
  have HKK := Lib.hid (rem_in x n hpos hn)
  go_enter Try.func5, Try.ntmps5
  go_upto_region 8 with (first
    | (go_at_call 10; refine HAW.out.mono ?_; (rintro e w1 ⟨rfl, hb1⟩); have HB1 := Lib.hid hb1; clear hb1))
  obtain ⟨k, hk, hkn⟩ := HKK.out
  rw [hk]
  clear hk HKK g3 g4
  have HKN := Lib.hid hkn
  have hn5 : n ≤ 500 := hn
  obtain ⟨⟨e, kk, v, b, q⟩, hT⟩ : ∃ t, tokT zs k = t := ⟨_, rfl⟩
  obtain ⟨bp, hbp⟩ : ∃ bp, blkP zs k = bp := ⟨_, rfl⟩
  have HLB := Lib.hid (show b.length ≤ 1000000 by have := tokT_len zs k; rw [hT] at this; exact this)
  have HT1 := Lib.hid (fun W h g (x : LS w W h g A n c k zs) => ls_tok (by omega) x hT hbp)
  have HT2 := Lib.hid (fun W m g (hl : LD W m 34 [] A n c k) (hb : Byt W g A n c zs) (hg : g ≤ m) => show Calls Try.prog 13 #[.pointer (some ⟨m, 0, none⟩)] W (RTokP m 34 [] A n c ⟨e, kk, v, b, q⟩ bp W) from by
    have hh := rtokC m n c k g 34 [] A zs W hl hb hg (by omega) hkn
    rw [hT, hbp] at hh
    exact hh)
  clear hT hbp
  have hdn : (e != e) = false := bne_self_eq_false e
  go_upto_region 10 with (first
    | (go_at_call 11; refine (HNEW.out _ HB1.out).mono ?_; (rintro r w2 ⟨rfl, hl2, hs2, hb2⟩); have HL2 := Lib.hid hl2; have HS2 := Lib.hid hs2; clear hl2 hs2 hb2))
  have hal := (Below.refl w2.heap.size w2).alloc (Nat.le_refl _) (.cells #[.slice A n c, .int .i64 (k : Int)] 34)
  have hbn := heap_alloc_new w2 (.cells #[.slice A n c, .int .i64 (k : Int)] 34)
  obtain ⟨w3, hw3⟩ : ∃ w3, w2.alloc (.cells #[.slice A n c, .int .i64 (k : Int)] 34) = w3 := ⟨_, rfl⟩
  rw [hw3] at hal hbn
  rw [hw3]
  have HQ3 := Lib.hid (show LS w w3 (w1.heap.size + 1) w1.heap.size A n c 0 zs ∧ LD w3 w2.heap.size 34 [] A n c k from ⟨HL2.out.low hal, ⟨hbn⟩⟩)
  have HGM := Lib.hid (show w1.heap.size < w2.heap.size ∧ w1.heap.size + 1 < w2.heap.size by have := HS2.out; omega)
  obtain ⟨h, hh⟩ : ∃ h, w1.heap.size + 1 = h := ⟨_, rfl⟩
  obtain ⟨g, hg⟩ : ∃ g, w1.heap.size = g := ⟨_, rfl⟩
  obtain ⟨m, hm⟩ : ∃ m, w2.heap.size = m := ⟨_, rfl⟩
  rw [hm, hh, hg] at HQ3 HGM
  rw [hm, hh]
  clear hal hbn hw3 hh hg hm HL2 HS2 HAW HB1
  have k3 := HQ3.out.1.lx.k0
  have HSK := Lib.hid (fun W p (hW : Cur W g A n c p) => seek_in g n c p k A W hW hkn (by omega))
  go_upto_region 12 with (first
    | (go_at_call 17; refine (HSK.out _ _ HQ3.out.1.lx.cu).mono ?_; (rintro r w4 ⟨rfl, hc4, ho4⟩); have HL4 := Lib.hid (HQ3.out.1.moved (HQ3.out.1.lx.moved hc4 ho4 HKN.out) ho4); have HD4 := Lib.hid (HQ3.out.2.only ho4 (by have := HGM.out; omega)); clear hc4 ho4)
    | (go_at_call 12; refine (HT1.out _ _ _ HL4.out).mono ?_; (rintro r w5 ⟨A4, m4, c4, rfl, hl5, ho5, hy5, hf5⟩); have HL5 := Lib.hid hl5; have HO5 := Lib.hid ho5; have HY5 := Lib.hid hy5; have HF5 := Lib.hid hf5; have HD5 := Lib.hid (HD4.out.only ho5 (by have := HGM.out; omega)); clear hl5 ho5 hy5 hf5))
  have HM4 := Lib.hid HD4.out.lt
  clear k3
  have hb6 := (Below.refl w5.heap.size w5).alloc (Nat.le_refl _) (.cells #[.int .i64 kk, .int .i64 (bp : Int), .int .i64 v, .slice A4 m4 c4] 28)
  have hx6 := Bx.new w5 28 (.int .i64 kk) (.int .i64 (bp : Int)) (.int .i64 v) (.slice A4 m4 c4)
  obtain ⟨w6, hw6⟩ : ∃ w6, w5.alloc (.cells #[.int .i64 kk, .int .i64 (bp : Int), .int .i64 v, .slice A4 m4 c4] 28) = w6 := ⟨_, rfl⟩
  have hs6 : w6.heap.size = w5.heap.size + 1 := by rw [← hw6]; simp
  rw [hw6] at hb6 hx6
  rw [hw6]
  have HX6 := Lib.hid hx6
  have HS6 := Lib.hid hs6
  have HL6 := Lib.hid (HL5.out.low hb6)
  have HY6 := Lib.hid (HY5.out.below hb6 (Nat.le_refl _))
  have HD6 := Lib.hid (HD5.out.below hb6 HD5.out.lt)
  have HC2 := Lib.hid (HT2.out w6 m g HD6.out HL6.out.bt (Nat.le_of_lt HGM.out.1))
  clear hb6 hx6 hw6 hs6 HL5 HY5 HD5 HT1 HT2
  go_upto_region 13 with (first
    | (go_at_call 13; refine HC2.out.mono ?_; (rintro r w7 ⟨A6, m6, c6, rfl, hd7, ho7, hy7, hf7⟩); have HD7 := Lib.hid hd7; have HO7 := Lib.hid ho7; have HY7 := Lib.hid hy7; clear hd7 ho7 hy7 hf7))
  have hb8 := (Below.refl w7.heap.size w7).alloc (Nat.le_refl _) (.cells #[.int .i64 kk, .int .i64 (bp : Int), .int .i64 v, .slice A6 m6 c6] 35)
  have hx8 := Bx.new w7 35 (.int .i64 kk) (.int .i64 (bp : Int)) (.int .i64 v) (.slice A6 m6 c6)
  obtain ⟨w8, hw8⟩ : ∃ w8, w7.alloc (.cells #[.int .i64 kk, .int .i64 (bp : Int), .int .i64 v, .slice A6 m6 c6] 35) = w8 := ⟨_, rfl⟩
  have hs8 : w8.heap.size = w7.heap.size + 1 := by rw [← hw8]; simp
  rw [hw8] at hb8 hx8
  rw [hw8]
  have hz1 : m < w4.heap.size := HM4.out
  have hz2 : w4.heap.size ≤ w5.heap.size := HO5.out.size
  have hz3 : w6.heap.size = w5.heap.size + 1 := HS6.out
  have hz4 : w6.heap.size ≤ w7.heap.size := HO7.out.size
  have hzg := HGM.out
  have HL8 := Lib.hid ((HL6.out.onlyM HO7.out hzg.1 hzg.2 (by omega)).low hb8)
  have hbt := (HX6.out.only HO7.out (by omega)).below hb8 (by omega)
  have HY4 := Lib.hid (((HY6.out.onlyF HO7.out HF5.out hz1 (by omega)).below hb8 (by omega)).more (show w5.heap.size ≤ w8.heap.size by omega))
  have HY8 := Lib.hid ((HY7.out.below hb8 (Nat.le_refl _)).more (show w7.heap.size ≤ w8.heap.size by omega))
  have HD8 := Lib.hid (HD7.out.below hb8 HD7.out.lt)
  obtain rfl : m4 = m6 := HY4.out.len.symm.trans HY8.out.len
  have HML : Hid (m4 ≤ 1000000) := Lib.hid (by have := HY4.out.len; have := HLB.out; omega)
  have HH8 := Lib.hid (show h < w8.heap.size ∧ m < w8.heap.size ∧ w5.heap.size < w8.heap.size ∧ w7.heap.size < w8.heap.size by omega)
  have HBT := Lib.hid hbt
  have HBU := Lib.hid hx8
  obtain ⟨t, ht⟩ : ∃ t, w5.heap.size = t := ⟨_, rfl⟩
  obtain ⟨u, hu⟩ : ∃ u, w7.heap.size = u := ⟨_, rfl⟩
  rw [ht] at HBT HH8
  rw [hu] at HBU HH8
  (try rw [ht])
  (try rw [hu])
  clear hb8 hx8 hw8 hs8 hz1 hz2 hz3 hz4 hzg hbt HY6 HY7 HX6 HO7 HO5 HF5 HL6 HD6 HD7 HC2 HS6 ht hu HL4 HD4 HM4
  have hS : ∀ W, Below w8.heap.size w8 W → RSA W h g t u m kk bp v q A4 m4 c4 A6 c6 := fun W hb =>
    ⟨(HL8.out.low hb).lx.k0, (HBT.out.below hb HH8.out.2.2.1).c0, (HBT.out.below hb HH8.out.2.2.1).c1, (HBT.out.below hb HH8.out.2.2.1).c2, (HBT.out.below hb HH8.out.2.2.1).c3, (HBU.out.below hb HH8.out.2.2.2).c0, (HBU.out.below hb HH8.out.2.2.2).c1, (HBU.out.below hb HH8.out.2.2.2).c2, (HBU.out.below hb HH8.out.2.2.2).c3, (HD8.out.below hb HH8.out.2.1).c1⟩
  have HSW := Lib.hid hS
  clear hS
  refine wp_region_heldR (fun W => RSA W h g t u m kk bp v q A4 m4 c4 A6 c6) 1000 (by kernel_rfl) (HSW.out _ (Below.refl _ _).drew) (fun hHeld => ?_)
  refine wpAnyR_take 0 rfl (by kernel_rfl) (by kernel_rfl) (by kernel_rfl) (by kernel_rfl) (fun _ _ _ h => h) (by rfl) (v := ?_) ?_ (by assumption) ?_
  rotate_left
  focus
    intro wS hSw
    obtain ⟨s0, s1, s2, s3, s4, s5, s6, s7, s8, s9⟩ := hSw
    go_simp
    (try simp only [s0, s1, s2, s3, s4, s5, s6, s7, s8, s9])
    (try simp only [bne_self_eq_false])
    try with_reducible rfl
  intro hHeld
  try simp only [Act.put, List.setIfInBounds_toArray, List.set_cons_zero, List.set_cons_succ]
  refine wpAnyR_take 1 rfl (by kernel_rfl) (by kernel_rfl) (by kernel_rfl) (by kernel_rfl) (fun _ _ _ h => h) (by rfl) (v := ?_) ?_ (by assumption) ?_
  rotate_left
  focus
    intro wS hSw
    obtain ⟨s0, s1, s2, s3, s4, s5, s6, s7, s8, s9⟩ := hSw
    go_simp
    (try simp only [s0, s1, s2, s3, s4, s5, s6, s7, s8, s9])
    (try simp only [bne_self_eq_false])
    try with_reducible rfl
  intro hHeld
  try simp only [Act.put, List.setIfInBounds_toArray, List.set_cons_zero, List.set_cons_succ]
  refine wpAnyR_take 2 rfl (by kernel_rfl) (by kernel_rfl) (by kernel_rfl) (by kernel_rfl) (fun _ _ _ h => h) (by rfl) (v := ?_) ?_ (by assumption) ?_
  rotate_left
  focus
    intro wS hSw
    obtain ⟨s0, s1, s2, s3, s4, s5, s6, s7, s8, s9⟩ := hSw
    go_simp
    (try simp only [s0, s1, s2, s3, s4, s5, s6, s7, s8, s9])
    (try simp only [bne_self_eq_false])
    try with_reducible rfl
  intro hHeld
  try simp only [Act.put, List.setIfInBounds_toArray, List.set_cons_zero, List.set_cons_succ]
  refine wpAnyR_take 3 rfl (by kernel_rfl) (by kernel_rfl) (by kernel_rfl) (by kernel_rfl) (fun _ _ _ h => h) (by rfl) (v := ?_) ?_ (by assumption) ?_
  rotate_left
  focus
    intro wS hSw
    obtain ⟨s0, s1, s2, s3, s4, s5, s6, s7, s8, s9⟩ := hSw
    go_simp
    (try simp only [s0, s1, s2, s3, s4, s5, s6, s7, s8, s9])
    (try simp only [bne_self_eq_false])
    try with_reducible rfl
  intro hHeld
  try simp only [Act.put, List.setIfInBounds_toArray, List.set_cons_zero, List.set_cons_succ]
  refine wpAnyR_take 4 rfl (by kernel_rfl) (by kernel_rfl) (by kernel_rfl) (by kernel_rfl) (fun _ _ _ h => h) (by rfl) (v := ?_) ?_ (by assumption) ?_
  rotate_left
  focus
    intro wS hSw
    obtain ⟨s0, s1, s2, s3, s4, s5, s6, s7, s8, s9⟩ := hSw
    go_simp
    (try simp only [s0, s1, s2, s3, s4, s5, s6, s7, s8, s9])
    (try simp only [bne_self_eq_false])
    try with_reducible rfl
  intro hHeld
  try simp only [Act.put, List.setIfInBounds_toArray, List.set_cons_zero, List.set_cons_succ]
  refine wpAnyR_take 6 rfl (by kernel_rfl) (by kernel_rfl) (by kernel_rfl) (by kernel_rfl) (fun _ _ _ h => h) (by rfl) (v := ?_) ?_ (by assumption) ?_
  rotate_left
  focus
    intro wS hSw
    obtain ⟨s0, s1, s2, s3, s4, s5, s6, s7, s8, s9⟩ := hSw
    go_simp
    (try simp only [s0, s1, s2, s3, s4, s5, s6, s7, s8, s9])
    (try simp only [bne_self_eq_false])
    try with_reducible rfl
  intro hHeld
  try simp only [Act.put, List.setIfInBounds_toArray, List.set_cons_zero, List.set_cons_succ]
  clear hHeld
  refine wpAnyR_step 5 rfl (by kernel_rfl) (fun K hK => ?_)
  go_simp
  go_at_call 15
  refine (ltokenC kk bp v A4 m4 c4 w8.drew).mono ?_
  rintro r w9 ⟨rfl, hb9⟩
  have HB9 := Lib.hid (((Below.refl w8.heap.size w8).drew).trans hb9)
  clear hb9
  refine hK.out _ _ (HSW.out _ HB9.out) (fun hHeld => ?_)
  clear hK K
  try simp only [Act.put, List.setIfInBounds_toArray, List.set_cons_zero, List.set_cons_succ]
  have HSM := Lib.hid (lsameC kk bp v A4 A6 m4 c4 c6 b w9 ((HY4.out.below HB9.out (Nat.le_refl _)).more HB9.out.size) ((HY8.out.below HB9.out (Nat.le_refl _)).more HB9.out.size) HML.out)
  clear hHeld
  refine wpAnyR_step 7 rfl (by kernel_rfl) (fun K hK => ?_)
  go_simp
  go_at_call 14
  refine HSM.out.mono ?_
  rintro r wa ⟨rfl, hba⟩
  have HBA := Lib.hid (HB9.out.trans (hba.mono HB9.out.size))
  clear hba HB9 HSM
  refine hK.out _ _ (HSW.out _ HBA.out) (fun hHeld => ?_)
  clear hK K
  try simp only [Act.put, List.setIfInBounds_toArray, List.set_cons_zero, List.set_cons_succ]
  refine wpAnyR_take 8 rfl (by kernel_rfl) (by kernel_rfl) (by kernel_rfl) (by kernel_rfl) (fun _ _ _ h => h) (by rfl) (v := ?_) ?_ (by assumption) ?_
  rotate_left
  focus
    intro wS hSw
    obtain ⟨s0, s1, s2, s3, s4, s5, s6, s7, s8, s9⟩ := hSw
    go_simp
    (try simp only [s0, s1, s2, s3, s4, s5, s6, s7, s8, s9])
    (try simp only [bne_self_eq_false])
    try with_reducible rfl
  intro hHeld
  try simp only [Act.put, List.setIfInBounds_toArray, List.set_cons_zero, List.set_cons_succ]
  refine wpAnyR_take 9 rfl (by kernel_rfl) (by kernel_rfl) (by kernel_rfl) (by kernel_rfl) (fun _ _ _ h => h) (by rfl) (v := ?_) ?_ (by assumption) ?_
  rotate_left
  focus
    intro wS hSw
    obtain ⟨s0, s1, s2, s3, s4, s5, s6, s7, s8, s9⟩ := hSw
    go_simp
    (try simp only [s0, s1, s2, s3, s4, s5, s6, s7, s8, s9])
    (try simp only [bne_self_eq_false])
    try with_reducible rfl
  intro hHeld
  try simp only [Act.put, List.setIfInBounds_toArray, List.set_cons_zero, List.set_cons_succ]
  refine wpAnyR_take 10 rfl (by kernel_rfl) (by kernel_rfl) (by kernel_rfl) (by kernel_rfl) (fun _ _ _ h => h) (by rfl) (v := ?_) ?_ (by assumption) ?_
  rotate_left
  focus
    intro wS hSw
    obtain ⟨s0, s1, s2, s3, s4, s5, s6, s7, s8, s9⟩ := hSw
    go_simp
    (try simp only [s0, s1, s2, s3, s4, s5, s6, s7, s8, s9])
    (try simp only [bne_self_eq_false])
    try with_reducible rfl
  intro hHeld
  try simp only [Act.put, List.setIfInBounds_toArray, List.set_cons_zero, List.set_cons_succ]
  refine wpAnyR_take 11 rfl (by kernel_rfl) (by kernel_rfl) (by kernel_rfl) (by kernel_rfl) (fun _ _ _ h => h) (by rfl) (v := ?_) ?_ (by assumption) ?_
  rotate_left
  focus
    intro wS hSw
    obtain ⟨s0, s1, s2, s3, s4, s5, s6, s7, s8, s9⟩ := hSw
    go_simp
    (try simp only [s0, s1, s2, s3, s4, s5, s6, s7, s8, s9])
    (try simp only [bne_self_eq_false])
    try with_reducible rfl
  intro hHeld
  try simp only [Act.put, List.setIfInBounds_toArray, List.set_cons_zero, List.set_cons_succ]
  refine wpAnyR_take 12 rfl (by kernel_rfl) (by kernel_rfl) (by kernel_rfl) (by kernel_rfl) (fun _ _ _ h => h) (by rfl) (v := ?_) ?_ (by assumption) ?_
  rotate_left
  focus
    intro wS hSw
    obtain ⟨s0, s1, s2, s3, s4, s5, s6, s7, s8, s9⟩ := hSw
    go_simp
    (try simp only [s0, s1, s2, s3, s4, s5, s6, s7, s8, s9])
    (try simp only [bne_self_eq_false])
    try with_reducible rfl
  intro hHeld
  try simp only [Act.put, List.setIfInBounds_toArray, List.set_cons_zero, List.set_cons_succ]
  refine wpAnyR_take 13 rfl (by kernel_rfl) (by kernel_rfl) (by kernel_rfl) (by kernel_rfl) (fun _ _ _ h => h) (by rfl) (v := ?_) ?_ (by assumption) ?_
  rotate_left
  focus
    intro wS hSw
    obtain ⟨s0, s1, s2, s3, s4, s5, s6, s7, s8, s9⟩ := hSw
    go_simp
    (try simp only [s0, s1, s2, s3, s4, s5, s6, s7, s8, s9])
    (try simp only [bne_self_eq_false])
    try with_reducible rfl
  intro hHeld
  try simp only [Act.put, List.setIfInBounds_toArray, List.set_cons_zero, List.set_cons_succ]
  refine wpAnyR_take 14 rfl (by kernel_rfl) (by kernel_rfl) (by kernel_rfl) (by kernel_rfl) (fun _ _ _ h => h) (by rfl) (v := ?_) ?_ (by assumption) ?_
  rotate_left
  focus
    intro wS hSw
    obtain ⟨s0, s1, s2, s3, s4, s5, s6, s7, s8, s9⟩ := hSw
    go_simp
    (try simp only [s0, s1, s2, s3, s4, s5, s6, s7, s8, s9])
    (try simp only [bne_self_eq_false])
    try with_reducible rfl
  intro hHeld
  try simp only [Act.put, List.setIfInBounds_toArray, List.set_cons_zero, List.set_cons_succ]
  refine wpAnyR_take 16 rfl (by kernel_rfl) (by kernel_rfl) (by kernel_rfl) (by kernel_rfl) (fun _ _ _ h => h) (by rfl) (v := ?_) ?_ (by assumption) ?_
  rotate_left
  focus
    intro wS hSw
    obtain ⟨s0, s1, s2, s3, s4, s5, s6, s7, s8, s9⟩ := hSw
    go_simp
    (try simp only [s0, s1, s2, s3, s4, s5, s6, s7, s8, s9])
    (try simp only [bne_self_eq_false])
    try with_reducible rfl
  intro hHeld
  try simp only [Act.put, List.setIfInBounds_toArray, List.set_cons_zero, List.set_cons_succ]
  refine wpAnyR_take 17 rfl (by kernel_rfl) (by kernel_rfl) (by kernel_rfl) (by kernel_rfl) (fun _ _ _ h => h) (by rfl) (v := ?_) ?_ (by assumption) ?_
  rotate_left
  focus
    intro wS hSw
    obtain ⟨s0, s1, s2, s3, s4, s5, s6, s7, s8, s9⟩ := hSw
    go_simp
    (try simp only [s0, s1, s2, s3, s4, s5, s6, s7, s8, s9])
    (try simp only [bne_self_eq_false])
    try with_reducible rfl
  intro hHeld
  try simp only [Act.put, List.setIfInBounds_toArray, List.set_cons_zero, List.set_cons_succ]
  refine wpAnyR_take 18 rfl (by kernel_rfl) (by kernel_rfl) (by kernel_rfl) (by kernel_rfl) (fun _ _ _ h => h) (by rfl) (v := ?_) ?_ (by assumption) ?_
  rotate_left
  focus
    intro wS hSw
    obtain ⟨s0, s1, s2, s3, s4, s5, s6, s7, s8, s9⟩ := hSw
    go_simp
    (try simp only [s0, s1, s2, s3, s4, s5, s6, s7, s8, s9])
    (try simp only [bne_self_eq_false])
    try with_reducible rfl
  intro hHeld
  try simp only [Act.put, List.setIfInBounds_toArray, List.set_cons_zero, List.set_cons_succ]
  refine wpAnyR_take 19 rfl (by kernel_rfl) (by kernel_rfl) (by kernel_rfl) (by kernel_rfl) (fun _ _ _ h => h) (by rfl) (v := ?_) ?_ (by assumption) ?_
  rotate_left
  focus
    intro wS hSw
    obtain ⟨s0, s1, s2, s3, s4, s5, s6, s7, s8, s9⟩ := hSw
    go_simp
    (try simp only [s0, s1, s2, s3, s4, s5, s6, s7, s8, s9])
    (try simp only [bne_self_eq_false])
    try with_reducible rfl
  intro hHeld
  try simp only [Act.put, List.setIfInBounds_toArray, List.set_cons_zero, List.set_cons_succ]
  have HPO := Lib.hid (pos_any g n c q A wa (HL8.out.low HBA.out).lx.cu)
  refine wpAnyR_step 15 rfl (by kernel_rfl) (fun K hK => ?_)
  go_simp
  go_at_call 16
  refine HPO.out.mono ?_
  rintro r w10 ⟨rfl, rfl⟩
  refine hK.out _ _ (HSW.out _ HBA.out) (fun hHeld => ?_)
  clear hK K
  try simp only [Act.put, List.setIfInBounds_toArray, List.set_cons_zero, List.set_cons_succ]
  have hqn : ((q : Int) != (q : Int)) = false := bne_self_eq_false _
  refine wpAnyR_take 20 rfl (by kernel_rfl) (by kernel_rfl) (by kernel_rfl) (by kernel_rfl) (fun _ _ _ h => h) (by rfl) (v := ?_) ?_ (by assumption) ?_
  rotate_left
  focus
    intro wS hSw
    obtain ⟨s0, s1, s2, s3, s4, s5, s6, s7, s8, s9⟩ := hSw
    go_simp
    (try simp only [s0, s1, s2, s3, s4, s5, s6, s7, s8, s9])
    (try simp only [bne_self_eq_false])
    try with_reducible rfl
  intro hHeld
  try simp only [Act.put, List.setIfInBounds_toArray, List.set_cons_zero, List.set_cons_succ]
  refine wpAnyR_take 21 rfl (by kernel_rfl) (by kernel_rfl) (by kernel_rfl) (by kernel_rfl) (fun _ _ _ h => h) (by rfl) (v := ?_) ?_ (by assumption) ?_
  rotate_left
  focus
    intro wS hSw
    obtain ⟨s0, s1, s2, s3, s4, s5, s6, s7, s8, s9⟩ := hSw
    go_simp
    (try simp only [s0, s1, s2, s3, s4, s5, s6, s7, s8, s9])
    (try simp only [bne_self_eq_false])
    try with_reducible rfl
  intro hHeld
  try simp only [Act.put, List.setIfInBounds_toArray, List.set_cons_zero, List.set_cons_succ]
  refine wpAnyR_done (by kernel_rfl) ?_
  refine NoPanic.normal ?_
  have HLA := Lib.hid (HL8.out.low HBA.out)
  have HDA := Lib.hid (HD8.out.below HBA.out HH8.out.2.1)
  clear hHeld HPO hqn hdn HSW HBU HBT HY4 HY8 HL8 HD8 HBA HH8 HML HLB
  have ka := HLA.out.lx.k0
  go_upto_region 16 with (first
    | (go_at_call 17; refine (HSK.out _ _ HLA.out.lx.cu).mono ?_; (rintro r wb ⟨rfl, hcb, hob⟩); have HLB := Lib.hid (HLA.out.moved (HLA.out.lx.moved hcb hob HKN.out) hob); have HDB := Lib.hid (HDA.out.only hob (by have := HGM.out; omega)); clear hcb hob))
  clear ka
  have fb := HDB.out.fr 1
  have cb := HDB.out.c1
  go_upto_region 17 with fail
  have hox := (Only.refl m wb).set_ 1 (.int .i64 (k : Int))
  have HDC := Lib.hid (HDB.out.setI k (k : Int) rfl)
  have HMB := Lib.hid HDB.out.lt
  have HLC := Lib.hid (HLB.out.onlyM hox HGM.out.1 HGM.out.2 (Nat.le_of_lt HMB.out))
  obtain ⟨wc, hwc⟩ : ∃ wc, wb.setCell ⟨m, 1, none⟩ (.int .i64 (k : Int)) = wc := ⟨_, rfl⟩
  rw [hwc] at HDC HLC
  rw [hwc]
  clear hox fb cb HLB HDB HMB hwc HLA HDA HQ3
  have HKL := Lib.hid (show kwP zs k s ≤ n by have h1 := kwP_le zs k s (by rw [HLN.out]; exact hkn); rw [HLN.out] at h1; exact h1)
  have HKP := Lib.hid (pkeywordC h g n c k g A zs s wc HLC.out.lx HLC.out.bt (Nat.le_refl _) (by omega) (by omega))
  have HRK := Lib.hid (fun W (hl : LD W m 34 [] A n c k) (hb : Byt W g A n c zs) => rkeywordC m n c k g 34 [] A zs s W hl hb (Nat.le_of_lt HGM.out.1) (by omega) hkn (by omega))
  obtain ⟨kb, hkb⟩ : ∃ kb, kwB zs k s = kb := ⟨_, rfl⟩
  obtain ⟨kp, hkp⟩ : ∃ kp, kwP zs k s = kp := ⟨_, rfl⟩
  rw [hkb, hkp] at HKP HRK
  rw [hkp] at HKL
  clear hkb hkp
  go_upto_region 18 with (first
    | (go_at_call 18; refine HKP.out.mono ?_; (rintro r wd ⟨rfl, hxd, hod⟩); have HLD := Lib.hid (HLC.out.moved hxd hod); have HDD := Lib.hid (HDC.out.only hod (by have := HGM.out; omega)); clear hxd hod))
  have HLW := Lib.hid (HLD.out.low ((Below.refl wd.heap.size wd).drew))
  have HDW := Lib.hid (HDD.out.below ((Below.refl wd.heap.size wd).drew) HDD.out.lt)
  refine wp_region_heldR (fun W => W.cell? ⟨h, 0, none⟩ = some (.pointer (some ⟨g, 0, none⟩)) ∧ W.cell? ⟨h, 0, none⟩ = some (.pointer (some ⟨g, 0, none⟩))) 1000 (by kernel_rfl) ⟨HLW.out.lx.k0, HLW.out.lx.k0⟩ (fun hHeld => ?_)
  refine wpAnyR_take 0 rfl (by kernel_rfl) (by kernel_rfl) (by kernel_rfl) (by kernel_rfl) (fun _ _ _ h => h) (by rfl) (v := ?_) ?_ (by assumption) ?_
  rotate_left
  focus
    intro wS hSw
    obtain ⟨s0, s1⟩ := hSw
    go_simp
    (try simp only [s0, s1])
    (try simp only [bne_self_eq_false, beq_self_eq_true])
    try with_reducible rfl
  intro hHeld
  try simp only [Act.put, List.setIfInBounds_toArray, List.set_cons_zero, List.set_cons_succ]
  refine wpAnyR_take 1 rfl (by kernel_rfl) (by kernel_rfl) (by kernel_rfl) (by kernel_rfl) (fun _ _ _ h => h) (by rfl) (v := ?_) ?_ (by assumption) ?_
  rotate_left
  focus
    intro wS hSw
    obtain ⟨s0, s1⟩ := hSw
    go_simp
    (try simp only [s0, s1])
    (try simp only [bne_self_eq_false, beq_self_eq_true])
    try with_reducible rfl
  intro hHeld
  try simp only [Act.put, List.setIfInBounds_toArray, List.set_cons_zero, List.set_cons_succ]
  refine wpAnyR_take 2 rfl (by kernel_rfl) (by kernel_rfl) (by kernel_rfl) (by kernel_rfl) (fun _ _ _ h => h) (by rfl) (v := ?_) ?_ (by assumption) ?_
  rotate_left
  focus
    intro wS hSw
    obtain ⟨s0, s1⟩ := hSw
    go_simp
    (try simp only [s0, s1])
    (try simp only [bne_self_eq_false, beq_self_eq_true])
    try with_reducible rfl
  intro hHeld
  try simp only [Act.put, List.setIfInBounds_toArray, List.set_cons_zero, List.set_cons_succ]
  clear hHeld
  refine wpAnyR_step 3 rfl (by kernel_rfl) (fun K hK => ?_)
  go_simp
  go_at_call 19
  refine (HRK.out _ HDW.out HLW.out.bt).mono ?_
  rintro r we ⟨rfl, hde, hoe⟩
  have HDE := Lib.hid hde
  have HLE := Lib.hid (HLW.out.onlyM hoe HGM.out.1 HGM.out.2 (Nat.le_of_lt HDW.out.lt))
  clear hde hoe
  refine hK.out _ _ (⟨HLE.out.lx.k0, HLE.out.lx.k0⟩) (fun hHeld => ?_)
  clear hK K
  try simp only [Act.put, List.setIfInBounds_toArray, List.set_cons_zero, List.set_cons_succ]
  refine wpAnyR_sharp (S' := fun W => W.cell? ⟨h, 0, none⟩ = some (.pointer (some ⟨g, 0, none⟩)) ∧ W.cell? ⟨m, 1, none⟩ = some (.int .i64 (kp : Int))) (fun _ hS => ⟨hS.1, hS.1⟩) _ _ _ _ ?_
  clear hHeld
  have hHeld := (show we.cell? ⟨h, 0, none⟩ = some (.pointer (some ⟨g, 0, none⟩)) ∧ we.cell? ⟨m, 1, none⟩ = some (.int .i64 (kp : Int)) from ⟨HLE.out.lx.k0, HDE.out.c1⟩)
  refine wpAnyR_take 4 rfl (by kernel_rfl) (by kernel_rfl) (by kernel_rfl) (by kernel_rfl) (fun _ _ _ h => h) (by rfl) (v := ?_) ?_ (by assumption) ?_
  rotate_left
  focus
    intro wS hSw
    obtain ⟨s0, s1⟩ := hSw
    go_simp
    (try simp only [s0, s1])
    (try simp only [bne_self_eq_false, beq_self_eq_true])
    try with_reducible rfl
  intro hHeld
  try simp only [Act.put, List.setIfInBounds_toArray, List.set_cons_zero, List.set_cons_succ]
  refine wpAnyR_take 5 rfl (by kernel_rfl) (by kernel_rfl) (by kernel_rfl) (by kernel_rfl) (fun _ _ _ h => h) (by rfl) (v := ?_) ?_ (by assumption) ?_
  rotate_left
  focus
    intro wS hSw
    obtain ⟨s0, s1⟩ := hSw
    go_simp
    (try simp only [s0, s1])
    (try simp only [bne_self_eq_false, beq_self_eq_true])
    try with_reducible rfl
  intro hHeld
  try simp only [Act.put, List.setIfInBounds_toArray, List.set_cons_zero, List.set_cons_succ]
  refine wpAnyR_take 6 rfl (by kernel_rfl) (by kernel_rfl) (by kernel_rfl) (by kernel_rfl) (fun _ _ _ h => h) (by rfl) (v := ?_) ?_ (by assumption) ?_
  rotate_left
  focus
    intro wS hSw
    obtain ⟨s0, s1⟩ := hSw
    go_simp
    (try simp only [s0, s1])
    (try simp only [bne_self_eq_false, beq_self_eq_true])
    try with_reducible rfl
  intro hHeld
  try simp only [Act.put, List.setIfInBounds_toArray, List.set_cons_zero, List.set_cons_succ]
  refine wpAnyR_take 7 rfl (by kernel_rfl) (by kernel_rfl) (by kernel_rfl) (by kernel_rfl) (fun _ _ _ h => h) (by rfl) (v := ?_) ?_ (by assumption) ?_
  rotate_left
  focus
    intro wS hSw
    obtain ⟨s0, s1⟩ := hSw
    go_simp
    (try simp only [s0, s1])
    (try simp only [bne_self_eq_false, beq_self_eq_true])
    try with_reducible rfl
  intro hHeld
  try simp only [Act.put, List.setIfInBounds_toArray, List.set_cons_zero, List.set_cons_succ]
  refine wpAnyR_take 8 rfl (by kernel_rfl) (by kernel_rfl) (by kernel_rfl) (by kernel_rfl) (fun _ _ _ h => h) (by rfl) (v := ?_) ?_ (by assumption) ?_
  rotate_left
  focus
    intro wS hSw
    obtain ⟨s0, s1⟩ := hSw
    go_simp
    (try simp only [s0, s1])
    (try simp only [bne_self_eq_false, beq_self_eq_true])
    try with_reducible rfl
  intro hHeld
  try simp only [Act.put, List.setIfInBounds_toArray, List.set_cons_zero, List.set_cons_succ]
  refine wpAnyR_take 9 rfl (by kernel_rfl) (by kernel_rfl) (by kernel_rfl) (by kernel_rfl) (fun _ _ _ h => h) (by rfl) (v := ?_) ?_ (by assumption) ?_
  rotate_left
  focus
    intro wS hSw
    obtain ⟨s0, s1⟩ := hSw
    go_simp
    (try simp only [s0, s1])
    (try simp only [bne_self_eq_false, beq_self_eq_true])
    try with_reducible rfl
  intro hHeld
  try simp only [Act.put, List.setIfInBounds_toArray, List.set_cons_zero, List.set_cons_succ]
  refine wpAnyR_take 11 rfl (by kernel_rfl) (by kernel_rfl) (by kernel_rfl) (by kernel_rfl) (fun _ _ _ h => h) (by rfl) (v := ?_) ?_ (by assumption) ?_
  rotate_left
  focus
    intro wS hSw
    obtain ⟨s0, s1⟩ := hSw
    go_simp
    (try simp only [s0, s1])
    (try simp only [bne_self_eq_false, beq_self_eq_true])
    try with_reducible rfl
  intro hHeld
  try simp only [Act.put, List.setIfInBounds_toArray, List.set_cons_zero, List.set_cons_succ]
  refine wpAnyR_take 12 rfl (by kernel_rfl) (by kernel_rfl) (by kernel_rfl) (by kernel_rfl) (fun _ _ _ h => h) (by rfl) (v := ?_) ?_ (by assumption) ?_
  rotate_left
  focus
    intro wS hSw
    obtain ⟨s0, s1⟩ := hSw
    go_simp
    (try simp only [s0, s1])
    (try simp only [bne_self_eq_false, beq_self_eq_true])
    try with_reducible rfl
  intro hHeld
  try simp only [Act.put, List.setIfInBounds_toArray, List.set_cons_zero, List.set_cons_succ]
  refine wpAnyR_take 13 rfl (by kernel_rfl) (by kernel_rfl) (by kernel_rfl) (by kernel_rfl) (fun _ _ _ h => h) (by rfl) (v := ?_) ?_ (by assumption) ?_
  rotate_left
  focus
    intro wS hSw
    obtain ⟨s0, s1⟩ := hSw
    go_simp
    (try simp only [s0, s1])
    (try simp only [bne_self_eq_false, beq_self_eq_true])
    try with_reducible rfl
  intro hHeld
  try simp only [Act.put, List.setIfInBounds_toArray, List.set_cons_zero, List.set_cons_succ]
  refine wpAnyR_take 14 rfl (by kernel_rfl) (by kernel_rfl) (by kernel_rfl) (by kernel_rfl) (fun _ _ _ h => h) (by rfl) (v := ?_) ?_ (by assumption) ?_
  rotate_left
  focus
    intro wS hSw
    obtain ⟨s0, s1⟩ := hSw
    go_simp
    (try simp only [s0, s1])
    (try simp only [bne_self_eq_false, beq_self_eq_true])
    try with_reducible rfl
  intro hHeld
  try simp only [Act.put, List.setIfInBounds_toArray, List.set_cons_zero, List.set_cons_succ]
  have HPE := Lib.hid (pos_any g n c kp A we HLE.out.lx.cu)
  refine wpAnyR_step 10 rfl (by kernel_rfl) (fun K hK => ?_)
  go_simp
  go_at_call 16
  refine HPE.out.mono ?_
  rintro r we2 ⟨rfl, rfl⟩
  refine hK.out _ _ (⟨HLE.out.lx.k0, HDE.out.c1⟩) (fun hHeld => ?_)
  clear hK K
  try simp only [Act.put, List.setIfInBounds_toArray, List.set_cons_zero, List.set_cons_succ]
  refine wpAnyR_take 15 rfl (by kernel_rfl) (by kernel_rfl) (by kernel_rfl) (by kernel_rfl) (fun _ _ _ h => h) (by rfl) (v := ?_) ?_ (by assumption) ?_
  rotate_left
  focus
    intro wS hSw
    obtain ⟨s0, s1⟩ := hSw
    go_simp
    (try simp only [s0, s1])
    (try simp only [bne_self_eq_false, beq_self_eq_true])
    try with_reducible rfl
  intro hHeld
  try simp only [Act.put, List.setIfInBounds_toArray, List.set_cons_zero, List.set_cons_succ]
  refine wpAnyR_take 16 rfl (by kernel_rfl) (by kernel_rfl) (by kernel_rfl) (by kernel_rfl) (fun _ _ _ h => h) (by rfl) (v := ?_) ?_ (by assumption) ?_
  rotate_left
  focus
    intro wS hSw
    obtain ⟨s0, s1⟩ := hSw
    go_simp
    (try simp only [s0, s1])
    (try simp only [bne_self_eq_false, beq_self_eq_true])
    try with_reducible rfl
  intro hHeld
  try simp only [Act.put, List.setIfInBounds_toArray, List.set_cons_zero, List.set_cons_succ]
  refine wpAnyR_done (by kernel_rfl) ?_
  refine NoPanic.normal ?_
  clear hHeld HPE HLW HDW HRK HKP HLD HDD HLC HDC
  have HBP := Lib.hid (pblankC h g n c kp g A zs we HLE.out.lx HLE.out.bt (Nat.le_refl _) (by omega))
  have HBR := Lib.hid (fun W (hl : LD W m 34 [] A n c kp) (hb : Byt W g A n c zs) => rblankC m n c kp g 34 [] A zs W hl hb (Nat.le_of_lt HGM.out.1) (by omega) HKL.out)
  obtain ⟨bq, hbq⟩ : ∃ bq, blkP zs kp = bq := ⟨_, rfl⟩
  rw [hbq] at HBP HBR
  clear hbq
  go_upto_region 22 with (first
    | (go_at_call 20; refine HBP.out.mono ?_; (rintro r wf ⟨rfl, hxf, hof⟩); have HLF := Lib.hid (HLE.out.moved hxf hof); have HDF := Lib.hid (HDE.out.only hof (by have := HGM.out; omega)); clear hxf hof)
    | (go_at_call 21; refine (HBR.out _ HDF.out HLF.out.bt).mono ?_; (rintro r wg ⟨rfl, hdg, hog⟩); have HDG := Lib.hid hdg; have HLG := Lib.hid (HLF.out.onlyM hog HGM.out.1 HGM.out.2 (Nat.le_of_lt HDF.out.lt)); clear hdg hog))
  have HLW := Lib.hid (HLG.out.low ((Below.refl wg.heap.size wg).drew))
  have HDW := Lib.hid (HDG.out.below ((Below.refl wg.heap.size wg).drew) HDG.out.lt)
  obtain ⟨ww, hww⟩ : ∃ ww, wg.drew = ww := ⟨_, rfl⟩
  refine wp_region_heldR (fun W => W.cell? ⟨h, 0, none⟩ = some (.pointer (some ⟨g, 0, none⟩)) ∧ W.cell? ⟨m, 1, none⟩ = some (.int .i64 (bq : Int))) 1000 (by kernel_rfl) ⟨HLW.out.lx.k0, HDW.out.c1⟩ (fun hHeld => ?_)
  rw [hww] at HLW HDW hHeld
  rw [hww]
  refine wpAnyR_take 0 rfl (by kernel_rfl) (by kernel_rfl) (by kernel_rfl) (by kernel_rfl) (fun _ _ _ h => h) (by rfl) (v := ?_) ?_ (by assumption) ?_
  rotate_left
  focus
    intro wS hSw
    obtain ⟨s0, s1⟩ := hSw
    go_simp
    (try simp only [s0, s1])
    (try simp only [bne_self_eq_false, beq_self_eq_true])
    try with_reducible rfl
  intro hHeld
  try simp only [Act.put, List.setIfInBounds_toArray, List.set_cons_zero, List.set_cons_succ]
  refine wpAnyR_take 1 rfl (by kernel_rfl) (by kernel_rfl) (by kernel_rfl) (by kernel_rfl) (fun _ _ _ h => h) (by rfl) (v := ?_) ?_ (by assumption) ?_
  rotate_left
  focus
    intro wS hSw
    obtain ⟨s0, s1⟩ := hSw
    go_simp
    (try simp only [s0, s1])
    (try simp only [bne_self_eq_false, beq_self_eq_true])
    try with_reducible rfl
  intro hHeld
  try simp only [Act.put, List.setIfInBounds_toArray, List.set_cons_zero, List.set_cons_succ]
  refine wpAnyR_take 2 rfl (by kernel_rfl) (by kernel_rfl) (by kernel_rfl) (by kernel_rfl) (fun _ _ _ h => h) (by rfl) (v := ?_) ?_ (by assumption) ?_
  rotate_left
  focus
    intro wS hSw
    obtain ⟨s0, s1⟩ := hSw
    go_simp
    (try simp only [s0, s1])
    (try simp only [bne_self_eq_false, beq_self_eq_true])
    try with_reducible rfl
  intro hHeld
  try simp only [Act.put, List.setIfInBounds_toArray, List.set_cons_zero, List.set_cons_succ]
  refine wpAnyR_take 3 rfl (by kernel_rfl) (by kernel_rfl) (by kernel_rfl) (by kernel_rfl) (fun _ _ _ h => h) (by rfl) (v := ?_) ?_ (by assumption) ?_
  rotate_left
  focus
    intro wS hSw
    obtain ⟨s0, s1⟩ := hSw
    go_simp
    (try simp only [s0, s1])
    (try simp only [bne_self_eq_false, beq_self_eq_true])
    try with_reducible rfl
  intro hHeld
  try simp only [Act.put, List.setIfInBounds_toArray, List.set_cons_zero, List.set_cons_succ]
  refine wpAnyR_take 5 rfl (by kernel_rfl) (by kernel_rfl) (by kernel_rfl) (by kernel_rfl) (fun _ _ _ h => h) (by rfl) (v := ?_) ?_ (by assumption) ?_
  rotate_left
  focus
    intro wS hSw
    obtain ⟨s0, s1⟩ := hSw
    go_simp
    (try simp only [s0, s1])
    (try simp only [bne_self_eq_false, beq_self_eq_true])
    try with_reducible rfl
  intro hHeld
  try simp only [Act.put, List.setIfInBounds_toArray, List.set_cons_zero, List.set_cons_succ]
  refine wpAnyR_take 6 rfl (by kernel_rfl) (by kernel_rfl) (by kernel_rfl) (by kernel_rfl) (fun _ _ _ h => h) (by rfl) (v := ?_) ?_ (by assumption) ?_
  rotate_left
  focus
    intro wS hSw
    obtain ⟨s0, s1⟩ := hSw
    go_simp
    (try simp only [s0, s1])
    (try simp only [bne_self_eq_false, beq_self_eq_true])
    try with_reducible rfl
  intro hHeld
  try simp only [Act.put, List.setIfInBounds_toArray, List.set_cons_zero, List.set_cons_succ]
  refine wpAnyR_take 7 rfl (by kernel_rfl) (by kernel_rfl) (by kernel_rfl) (by kernel_rfl) (fun _ _ _ h => h) (by rfl) (v := ?_) ?_ (by assumption) ?_
  rotate_left
  focus
    intro wS hSw
    obtain ⟨s0, s1⟩ := hSw
    go_simp
    (try simp only [s0, s1])
    (try simp only [bne_self_eq_false, beq_self_eq_true])
    try with_reducible rfl
  intro hHeld
  try simp only [Act.put, List.setIfInBounds_toArray, List.set_cons_zero, List.set_cons_succ]
  refine wpAnyR_take 8 rfl (by kernel_rfl) (by kernel_rfl) (by kernel_rfl) (by kernel_rfl) (fun _ _ _ h => h) (by rfl) (v := ?_) ?_ (by assumption) ?_
  rotate_left
  focus
    intro wS hSw
    obtain ⟨s0, s1⟩ := hSw
    go_simp
    (try simp only [s0, s1])
    (try simp only [bne_self_eq_false, beq_self_eq_true])
    try with_reducible rfl
  intro hHeld
  try simp only [Act.put, List.setIfInBounds_toArray, List.set_cons_zero, List.set_cons_succ]
  have HPG := Lib.hid (pos_any g n c bq A ww HLW.out.lx.cu)
  refine wpAnyR_step 4 rfl (by kernel_rfl) (fun K hK => ?_)
  go_simp
  go_at_call 16
  refine HPG.out.mono ?_
  rintro r ww2 ⟨rfl, rfl⟩
  refine hK.out _ _ (⟨HLW.out.lx.k0, HDW.out.c1⟩) (fun hHeld => ?_)
  clear hK K
  try simp only [Act.put, List.setIfInBounds_toArray, List.set_cons_zero, List.set_cons_succ]
  refine wpAnyR_take 9 rfl (by kernel_rfl) (by kernel_rfl) (by kernel_rfl) (by kernel_rfl) (fun _ _ _ h => h) (by rfl) (v := ?_) ?_ (by assumption) ?_
  rotate_left
  focus
    intro wS hSw
    obtain ⟨s0, s1⟩ := hSw
    go_simp
    (try simp only [s0, s1])
    (try simp only [bne_self_eq_false, beq_self_eq_true])
    try with_reducible rfl
  intro hHeld
  try simp only [Act.put, List.setIfInBounds_toArray, List.set_cons_zero, List.set_cons_succ]
  refine wpAnyR_take 10 rfl (by kernel_rfl) (by kernel_rfl) (by kernel_rfl) (by kernel_rfl) (fun _ _ _ h => h) (by rfl) (v := ?_) ?_ (by assumption) ?_
  rotate_left
  focus
    intro wS hSw
    obtain ⟨s0, s1⟩ := hSw
    go_simp
    (try simp only [s0, s1])
    (try simp only [bne_self_eq_false, beq_self_eq_true])
    try with_reducible rfl
  intro hHeld
  try simp only [Act.put, List.setIfInBounds_toArray, List.set_cons_zero, List.set_cons_succ]
  refine wpAnyR_take 11 rfl (by kernel_rfl) (by kernel_rfl) (by kernel_rfl) (by kernel_rfl) (fun _ _ _ h => h) (by rfl) (v := ?_) ?_ (by assumption) ?_
  rotate_left
  focus
    intro wS hSw
    obtain ⟨s0, s1⟩ := hSw
    go_simp
    (try simp only [s0, s1])
    (try simp only [bne_self_eq_false, beq_self_eq_true])
    try with_reducible rfl
  intro hHeld
  try simp only [Act.put, List.setIfInBounds_toArray, List.set_cons_zero, List.set_cons_succ]
  refine wpAnyR_take 13 rfl (by kernel_rfl) (by kernel_rfl) (by kernel_rfl) (by kernel_rfl) (fun _ _ _ h => h) (by rfl) (v := ?_) ?_ (by assumption) ?_
  rotate_left
  focus
    intro wS hSw
    obtain ⟨s0, s1⟩ := hSw
    go_simp
    (try simp only [s0, s1])
    (try simp only [bne_self_eq_false, beq_self_eq_true])
    try with_reducible rfl
  intro hHeld
  try simp only [Act.put, List.setIfInBounds_toArray, List.set_cons_zero, List.set_cons_succ]
  refine wpAnyR_step 12 rfl (by kernel_rfl) (fun K hK => ?_)
  go_simp
  go_at_call 22
  refine (pregC x ww).mono ?_
  rintro r ww3 ⟨rfl, rfl⟩
  refine hK.out _ _ (⟨HLW.out.lx.k0, HDW.out.c1⟩) (fun hHeld => ?_)
  clear hK K
  try simp only [Act.put, List.setIfInBounds_toArray, List.set_cons_zero, List.set_cons_succ]
  refine wpAnyR_step 14 rfl (by kernel_rfl) (fun K hK => ?_)
  go_simp
  go_at_call 23
  refine (rregC x ww).mono ?_
  rintro r ww4 ⟨rfl, rfl⟩
  refine hK.out _ _ (⟨HLW.out.lx.k0, HDW.out.c1⟩) (fun hHeld => ?_)
  clear hK K
  try simp only [Act.put, List.setIfInBounds_toArray, List.set_cons_zero, List.set_cons_succ]
  refine wpAnyR_take 15 rfl (by kernel_rfl) (by kernel_rfl) (by kernel_rfl) (by kernel_rfl) (fun _ _ _ h => h) (by rfl) (v := ?_) ?_ (by assumption) ?_
  rotate_left
  focus
    intro wS hSw
    obtain ⟨s0, s1⟩ := hSw
    go_simp
    (try simp only [s0, s1])
    (try simp only [bne_self_eq_false, beq_self_eq_true])
    try with_reducible rfl
  intro hHeld
  try simp only [Act.put, List.setIfInBounds_toArray, List.set_cons_zero, List.set_cons_succ]
  refine wpAnyR_take 16 rfl (by kernel_rfl) (by kernel_rfl) (by kernel_rfl) (by kernel_rfl) (fun _ _ _ h => h) (by rfl) (v := ?_) ?_ (by assumption) ?_
  rotate_left
  focus
    intro wS hSw
    obtain ⟨s0, s1⟩ := hSw
    go_simp
    (try simp only [s0, s1])
    (try simp only [bne_self_eq_false, beq_self_eq_true])
    try with_reducible rfl
  intro hHeld
  try simp only [Act.put, List.setIfInBounds_toArray, List.set_cons_zero, List.set_cons_succ]
  refine wpAnyR_take 17 rfl (by kernel_rfl) (by kernel_rfl) (by kernel_rfl) (by kernel_rfl) (fun _ _ _ h => h) (by rfl) (v := ?_) ?_ (by assumption) ?_
  rotate_left
  focus
    intro wS hSw
    obtain ⟨s0, s1⟩ := hSw
    go_simp
    (try simp only [s0, s1])
    (try simp only [bne_self_eq_false, beq_self_eq_true])
    try with_reducible rfl
  intro hHeld
  try simp only [Act.put, List.setIfInBounds_toArray, List.set_cons_zero, List.set_cons_succ]
  refine wpAnyR_done (by kernel_rfl) ?_
  refine NoPanic.normal ?_
  go_wp2_with fail
  go_ret
  exact ⟨rfl, HLW.out.bl⟩
set_option maxHeartbeats 8000000 in
theorem anyw_zero (A : Option Addr) (n c : Nat) (x : Int) (s : ByteArray) (zs : List Int) (w : World) (hz : Byt w w.heap.size A n c zs) (hn : n ≤ 500) (hs : s.size ≤ 50) (x0 : -9223372036854775808 ≤ x) (x1 : x ≤ 9223372036854775807) (hpos : n = 0) :
    Calls Try.prog 5 #[.slice A n c, .int .i64 x, .string s] w fun e w' => e = .returned (.bool true) ∧ Below w.heap.size w w' := by
  have HAW := Lib.hid (awake_any w)
  have HLN := Lib.hid hz.len
  have g1 : ¬ (n : Int) > 500 := by omega
  have g2 : ¬ (s.size : Int) > 50 := by omega
  have HNEW := Lib.hid (fun W (hb : Below w.heap.size w W) => ls_new w W A n c zs ((hz.below hb (Nat.le_refl _)).more hb.size) hb)
  clear hz
  have g3 : decide ((n : Int) > 0) = false := decide_eq_false (by omega)
  have g5 : decide (0 < n) = false := decide_eq_false (by omega)
  have HP0 := Lib.hid hpos
  clear hpos
  go_enter Try.func5, Try.ntmps5
  go_upto_region 8 with (first
    | (go_at_call 10; refine HAW.out.mono ?_; (rintro e w1 ⟨rfl, hb1⟩); have HB1 := Lib.hid hb1; clear hb1))
  obtain ⟨k, hk⟩ : ∃ k : Nat, (0 : Int) = (k : Int) := ⟨0, rfl⟩
  rw [show (Value.int .i64 0) = Value.int .i64 (k : Int) by rw [← hk]]
  have hkn : k ≤ n := by omega
  clear hk g3 g5
  have HKN := Lib.hid hkn
  have hn5 : n ≤ 500 := hn
  obtain ⟨⟨e, kk, v, b, q⟩, hT⟩ : ∃ t, tokT zs k = t := ⟨_, rfl⟩
  obtain ⟨bp, hbp⟩ : ∃ bp, blkP zs k = bp := ⟨_, rfl⟩
  have HLB := Lib.hid (show b.length ≤ 1000000 by have := tokT_len zs k; rw [hT] at this; exact this)
  have HT1 := Lib.hid (fun W h g (x : LS w W h g A n c k zs) => ls_tok (by omega) x hT hbp)
  have HT2 := Lib.hid (fun W m g (hl : LD W m 34 [] A n c k) (hb : Byt W g A n c zs) (hg : g ≤ m) => show Calls Try.prog 13 #[.pointer (some ⟨m, 0, none⟩)] W (RTokP m 34 [] A n c ⟨e, kk, v, b, q⟩ bp W) from by
    have hh := rtokC m n c k g 34 [] A zs W hl hb hg (by omega) hkn
    rw [hT, hbp] at hh
    exact hh)
  clear hT hbp
  have hdn : (e != e) = false := bne_self_eq_false e
  go_upto_region 10 with (first
    | (go_at_call 11; refine (HNEW.out _ HB1.out).mono ?_; (rintro r w2 ⟨rfl, hl2, hs2, hb2⟩); have HL2 := Lib.hid hl2; have HS2 := Lib.hid hs2; clear hl2 hs2 hb2))
  have hal := (Below.refl w2.heap.size w2).alloc (Nat.le_refl _) (.cells #[.slice A n c, .int .i64 (k : Int)] 34)
  have hbn := heap_alloc_new w2 (.cells #[.slice A n c, .int .i64 (k : Int)] 34)
  obtain ⟨w3, hw3⟩ : ∃ w3, w2.alloc (.cells #[.slice A n c, .int .i64 (k : Int)] 34) = w3 := ⟨_, rfl⟩
  rw [hw3] at hal hbn
  rw [hw3]
  have HQ3 := Lib.hid (show LS w w3 (w1.heap.size + 1) w1.heap.size A n c 0 zs ∧ LD w3 w2.heap.size 34 [] A n c k from ⟨HL2.out.low hal, ⟨hbn⟩⟩)
  have HGM := Lib.hid (show w1.heap.size < w2.heap.size ∧ w1.heap.size + 1 < w2.heap.size by have := HS2.out; omega)
  obtain ⟨h, hh⟩ : ∃ h, w1.heap.size + 1 = h := ⟨_, rfl⟩
  obtain ⟨g, hg⟩ : ∃ g, w1.heap.size = g := ⟨_, rfl⟩
  obtain ⟨m, hm⟩ : ∃ m, w2.heap.size = m := ⟨_, rfl⟩
  rw [hm, hh, hg] at HQ3 HGM
  rw [hm, hh]
  clear hal hbn hw3 hh hg hm HL2 HS2 HAW HB1
  have k3 := HQ3.out.1.lx.k0
  have HSK := Lib.hid (fun W p (hW : Cur W g A n c p) => seek_in g n c p k A W hW hkn (by omega))
  go_upto_region 12 with (first
    | (go_at_call 17; refine (HSK.out _ _ HQ3.out.1.lx.cu).mono ?_; (rintro r w4 ⟨rfl, hc4, ho4⟩); have HL4 := Lib.hid (HQ3.out.1.moved (HQ3.out.1.lx.moved hc4 ho4 HKN.out) ho4); have HD4 := Lib.hid (HQ3.out.2.only ho4 (by have := HGM.out; omega)); clear hc4 ho4)
    | (go_at_call 12; refine (HT1.out _ _ _ HL4.out).mono ?_; (rintro r w5 ⟨A4, m4, c4, rfl, hl5, ho5, hy5, hf5⟩); have HL5 := Lib.hid hl5; have HO5 := Lib.hid ho5; have HY5 := Lib.hid hy5; have HF5 := Lib.hid hf5; have HD5 := Lib.hid (HD4.out.only ho5 (by have := HGM.out; omega)); clear hl5 ho5 hy5 hf5))
  have HM4 := Lib.hid HD4.out.lt
  clear k3
  have hb6 := (Below.refl w5.heap.size w5).alloc (Nat.le_refl _) (.cells #[.int .i64 kk, .int .i64 (bp : Int), .int .i64 v, .slice A4 m4 c4] 28)
  have hx6 := Bx.new w5 28 (.int .i64 kk) (.int .i64 (bp : Int)) (.int .i64 v) (.slice A4 m4 c4)
  obtain ⟨w6, hw6⟩ : ∃ w6, w5.alloc (.cells #[.int .i64 kk, .int .i64 (bp : Int), .int .i64 v, .slice A4 m4 c4] 28) = w6 := ⟨_, rfl⟩
  have hs6 : w6.heap.size = w5.heap.size + 1 := by rw [← hw6]; simp
  rw [hw6] at hb6 hx6
  rw [hw6]
  have HX6 := Lib.hid hx6
  have HS6 := Lib.hid hs6
  have HL6 := Lib.hid (HL5.out.low hb6)
  have HY6 := Lib.hid (HY5.out.below hb6 (Nat.le_refl _))
  have HD6 := Lib.hid (HD5.out.below hb6 HD5.out.lt)
  have HC2 := Lib.hid (HT2.out w6 m g HD6.out HL6.out.bt (Nat.le_of_lt HGM.out.1))
  clear hb6 hx6 hw6 hs6 HL5 HY5 HD5 HT1 HT2
  go_upto_region 13 with (first
    | (go_at_call 13; refine HC2.out.mono ?_; (rintro r w7 ⟨A6, m6, c6, rfl, hd7, ho7, hy7, hf7⟩); have HD7 := Lib.hid hd7; have HO7 := Lib.hid ho7; have HY7 := Lib.hid hy7; clear hd7 ho7 hy7 hf7))
  have hb8 := (Below.refl w7.heap.size w7).alloc (Nat.le_refl _) (.cells #[.int .i64 kk, .int .i64 (bp : Int), .int .i64 v, .slice A6 m6 c6] 35)
  have hx8 := Bx.new w7 35 (.int .i64 kk) (.int .i64 (bp : Int)) (.int .i64 v) (.slice A6 m6 c6)
  obtain ⟨w8, hw8⟩ : ∃ w8, w7.alloc (.cells #[.int .i64 kk, .int .i64 (bp : Int), .int .i64 v, .slice A6 m6 c6] 35) = w8 := ⟨_, rfl⟩
  have hs8 : w8.heap.size = w7.heap.size + 1 := by rw [← hw8]; simp
  rw [hw8] at hb8 hx8
  rw [hw8]
  have hz1 : m < w4.heap.size := HM4.out
  have hz2 : w4.heap.size ≤ w5.heap.size := HO5.out.size
  have hz3 : w6.heap.size = w5.heap.size + 1 := HS6.out
  have hz4 : w6.heap.size ≤ w7.heap.size := HO7.out.size
  have hzg := HGM.out
  have HL8 := Lib.hid ((HL6.out.onlyM HO7.out hzg.1 hzg.2 (by omega)).low hb8)
  have hbt := (HX6.out.only HO7.out (by omega)).below hb8 (by omega)
  have HY4 := Lib.hid (((HY6.out.onlyF HO7.out HF5.out hz1 (by omega)).below hb8 (by omega)).more (show w5.heap.size ≤ w8.heap.size by omega))
  have HY8 := Lib.hid ((HY7.out.below hb8 (Nat.le_refl _)).more (show w7.heap.size ≤ w8.heap.size by omega))
  have HD8 := Lib.hid (HD7.out.below hb8 HD7.out.lt)
  obtain rfl : m4 = m6 := HY4.out.len.symm.trans HY8.out.len
  have HML : Hid (m4 ≤ 1000000) := Lib.hid (by have := HY4.out.len; have := HLB.out; omega)
  have HH8 := Lib.hid (show h < w8.heap.size ∧ m < w8.heap.size ∧ w5.heap.size < w8.heap.size ∧ w7.heap.size < w8.heap.size by omega)
  have HBT := Lib.hid hbt
  have HBU := Lib.hid hx8
  obtain ⟨t, ht⟩ : ∃ t, w5.heap.size = t := ⟨_, rfl⟩
  obtain ⟨u, hu⟩ : ∃ u, w7.heap.size = u := ⟨_, rfl⟩
  rw [ht] at HBT HH8
  rw [hu] at HBU HH8
  (try rw [ht])
  (try rw [hu])
  clear hb8 hx8 hw8 hs8 hz1 hz2 hz3 hz4 hzg hbt HY6 HY7 HX6 HO7 HO5 HF5 HL6 HD6 HD7 HC2 HS6 ht hu HL4 HD4 HM4
  have hS : ∀ W, Below w8.heap.size w8 W → RSA W h g t u m kk bp v q A4 m4 c4 A6 c6 := fun W hb =>
    ⟨(HL8.out.low hb).lx.k0, (HBT.out.below hb HH8.out.2.2.1).c0, (HBT.out.below hb HH8.out.2.2.1).c1, (HBT.out.below hb HH8.out.2.2.1).c2, (HBT.out.below hb HH8.out.2.2.1).c3, (HBU.out.below hb HH8.out.2.2.2).c0, (HBU.out.below hb HH8.out.2.2.2).c1, (HBU.out.below hb HH8.out.2.2.2).c2, (HBU.out.below hb HH8.out.2.2.2).c3, (HD8.out.below hb HH8.out.2.1).c1⟩
  have HSW := Lib.hid hS
  clear hS
  refine wp_region_heldR (fun W => RSA W h g t u m kk bp v q A4 m4 c4 A6 c6) 1000 (by kernel_rfl) (HSW.out _ (Below.refl _ _).drew) (fun hHeld => ?_)
  refine wpAnyR_take 0 rfl (by kernel_rfl) (by kernel_rfl) (by kernel_rfl) (by kernel_rfl) (fun _ _ _ h => h) (by rfl) (v := ?_) ?_ (by assumption) ?_
  rotate_left
  focus
    intro wS hSw
    obtain ⟨s0, s1, s2, s3, s4, s5, s6, s7, s8, s9⟩ := hSw
    go_simp
    (try simp only [s0, s1, s2, s3, s4, s5, s6, s7, s8, s9])
    (try simp only [bne_self_eq_false])
    try with_reducible rfl
  intro hHeld
  try simp only [Act.put, List.setIfInBounds_toArray, List.set_cons_zero, List.set_cons_succ]
  refine wpAnyR_take 1 rfl (by kernel_rfl) (by kernel_rfl) (by kernel_rfl) (by kernel_rfl) (fun _ _ _ h => h) (by rfl) (v := ?_) ?_ (by assumption) ?_
  rotate_left
  focus
    intro wS hSw
    obtain ⟨s0, s1, s2, s3, s4, s5, s6, s7, s8, s9⟩ := hSw
    go_simp
    (try simp only [s0, s1, s2, s3, s4, s5, s6, s7, s8, s9])
    (try simp only [bne_self_eq_false])
    try with_reducible rfl
  intro hHeld
  try simp only [Act.put, List.setIfInBounds_toArray, List.set_cons_zero, List.set_cons_succ]
  refine wpAnyR_take 2 rfl (by kernel_rfl) (by kernel_rfl) (by kernel_rfl) (by kernel_rfl) (fun _ _ _ h => h) (by rfl) (v := ?_) ?_ (by assumption) ?_
  rotate_left
  focus
    intro wS hSw
    obtain ⟨s0, s1, s2, s3, s4, s5, s6, s7, s8, s9⟩ := hSw
    go_simp
    (try simp only [s0, s1, s2, s3, s4, s5, s6, s7, s8, s9])
    (try simp only [bne_self_eq_false])
    try with_reducible rfl
  intro hHeld
  try simp only [Act.put, List.setIfInBounds_toArray, List.set_cons_zero, List.set_cons_succ]
  refine wpAnyR_take 3 rfl (by kernel_rfl) (by kernel_rfl) (by kernel_rfl) (by kernel_rfl) (fun _ _ _ h => h) (by rfl) (v := ?_) ?_ (by assumption) ?_
  rotate_left
  focus
    intro wS hSw
    obtain ⟨s0, s1, s2, s3, s4, s5, s6, s7, s8, s9⟩ := hSw
    go_simp
    (try simp only [s0, s1, s2, s3, s4, s5, s6, s7, s8, s9])
    (try simp only [bne_self_eq_false])
    try with_reducible rfl
  intro hHeld
  try simp only [Act.put, List.setIfInBounds_toArray, List.set_cons_zero, List.set_cons_succ]
  refine wpAnyR_take 4 rfl (by kernel_rfl) (by kernel_rfl) (by kernel_rfl) (by kernel_rfl) (fun _ _ _ h => h) (by rfl) (v := ?_) ?_ (by assumption) ?_
  rotate_left
  focus
    intro wS hSw
    obtain ⟨s0, s1, s2, s3, s4, s5, s6, s7, s8, s9⟩ := hSw
    go_simp
    (try simp only [s0, s1, s2, s3, s4, s5, s6, s7, s8, s9])
    (try simp only [bne_self_eq_false])
    try with_reducible rfl
  intro hHeld
  try simp only [Act.put, List.setIfInBounds_toArray, List.set_cons_zero, List.set_cons_succ]
  refine wpAnyR_take 6 rfl (by kernel_rfl) (by kernel_rfl) (by kernel_rfl) (by kernel_rfl) (fun _ _ _ h => h) (by rfl) (v := ?_) ?_ (by assumption) ?_
  rotate_left
  focus
    intro wS hSw
    obtain ⟨s0, s1, s2, s3, s4, s5, s6, s7, s8, s9⟩ := hSw
    go_simp
    (try simp only [s0, s1, s2, s3, s4, s5, s6, s7, s8, s9])
    (try simp only [bne_self_eq_false])
    try with_reducible rfl
  intro hHeld
  try simp only [Act.put, List.setIfInBounds_toArray, List.set_cons_zero, List.set_cons_succ]
  clear hHeld
  refine wpAnyR_step 5 rfl (by kernel_rfl) (fun K hK => ?_)
  go_simp
  go_at_call 15
  refine (ltokenC kk bp v A4 m4 c4 w8.drew).mono ?_
  rintro r w9 ⟨rfl, hb9⟩
  have HB9 := Lib.hid (((Below.refl w8.heap.size w8).drew).trans hb9)
  clear hb9
  refine hK.out _ _ (HSW.out _ HB9.out) (fun hHeld => ?_)
  clear hK K
  try simp only [Act.put, List.setIfInBounds_toArray, List.set_cons_zero, List.set_cons_succ]
  have HSM := Lib.hid (lsameC kk bp v A4 A6 m4 c4 c6 b w9 ((HY4.out.below HB9.out (Nat.le_refl _)).more HB9.out.size) ((HY8.out.below HB9.out (Nat.le_refl _)).more HB9.out.size) HML.out)
  clear hHeld
  refine wpAnyR_step 7 rfl (by kernel_rfl) (fun K hK => ?_)
  go_simp
  go_at_call 14
  refine HSM.out.mono ?_
  rintro r wa ⟨rfl, hba⟩
  have HBA := Lib.hid (HB9.out.trans (hba.mono HB9.out.size))
  clear hba HB9 HSM
  refine hK.out _ _ (HSW.out _ HBA.out) (fun hHeld => ?_)
  clear hK K
  try simp only [Act.put, List.setIfInBounds_toArray, List.set_cons_zero, List.set_cons_succ]
  refine wpAnyR_take 8 rfl (by kernel_rfl) (by kernel_rfl) (by kernel_rfl) (by kernel_rfl) (fun _ _ _ h => h) (by rfl) (v := ?_) ?_ (by assumption) ?_
  rotate_left
  focus
    intro wS hSw
    obtain ⟨s0, s1, s2, s3, s4, s5, s6, s7, s8, s9⟩ := hSw
    go_simp
    (try simp only [s0, s1, s2, s3, s4, s5, s6, s7, s8, s9])
    (try simp only [bne_self_eq_false])
    try with_reducible rfl
  intro hHeld
  try simp only [Act.put, List.setIfInBounds_toArray, List.set_cons_zero, List.set_cons_succ]
  refine wpAnyR_take 9 rfl (by kernel_rfl) (by kernel_rfl) (by kernel_rfl) (by kernel_rfl) (fun _ _ _ h => h) (by rfl) (v := ?_) ?_ (by assumption) ?_
  rotate_left
  focus
    intro wS hSw
    obtain ⟨s0, s1, s2, s3, s4, s5, s6, s7, s8, s9⟩ := hSw
    go_simp
    (try simp only [s0, s1, s2, s3, s4, s5, s6, s7, s8, s9])
    (try simp only [bne_self_eq_false])
    try with_reducible rfl
  intro hHeld
  try simp only [Act.put, List.setIfInBounds_toArray, List.set_cons_zero, List.set_cons_succ]
  refine wpAnyR_take 10 rfl (by kernel_rfl) (by kernel_rfl) (by kernel_rfl) (by kernel_rfl) (fun _ _ _ h => h) (by rfl) (v := ?_) ?_ (by assumption) ?_
  rotate_left
  focus
    intro wS hSw
    obtain ⟨s0, s1, s2, s3, s4, s5, s6, s7, s8, s9⟩ := hSw
    go_simp
    (try simp only [s0, s1, s2, s3, s4, s5, s6, s7, s8, s9])
    (try simp only [bne_self_eq_false])
    try with_reducible rfl
  intro hHeld
  try simp only [Act.put, List.setIfInBounds_toArray, List.set_cons_zero, List.set_cons_succ]
  refine wpAnyR_take 11 rfl (by kernel_rfl) (by kernel_rfl) (by kernel_rfl) (by kernel_rfl) (fun _ _ _ h => h) (by rfl) (v := ?_) ?_ (by assumption) ?_
  rotate_left
  focus
    intro wS hSw
    obtain ⟨s0, s1, s2, s3, s4, s5, s6, s7, s8, s9⟩ := hSw
    go_simp
    (try simp only [s0, s1, s2, s3, s4, s5, s6, s7, s8, s9])
    (try simp only [bne_self_eq_false])
    try with_reducible rfl
  intro hHeld
  try simp only [Act.put, List.setIfInBounds_toArray, List.set_cons_zero, List.set_cons_succ]
  refine wpAnyR_take 12 rfl (by kernel_rfl) (by kernel_rfl) (by kernel_rfl) (by kernel_rfl) (fun _ _ _ h => h) (by rfl) (v := ?_) ?_ (by assumption) ?_
  rotate_left
  focus
    intro wS hSw
    obtain ⟨s0, s1, s2, s3, s4, s5, s6, s7, s8, s9⟩ := hSw
    go_simp
    (try simp only [s0, s1, s2, s3, s4, s5, s6, s7, s8, s9])
    (try simp only [bne_self_eq_false])
    try with_reducible rfl
  intro hHeld
  try simp only [Act.put, List.setIfInBounds_toArray, List.set_cons_zero, List.set_cons_succ]
  refine wpAnyR_take 13 rfl (by kernel_rfl) (by kernel_rfl) (by kernel_rfl) (by kernel_rfl) (fun _ _ _ h => h) (by rfl) (v := ?_) ?_ (by assumption) ?_
  rotate_left
  focus
    intro wS hSw
    obtain ⟨s0, s1, s2, s3, s4, s5, s6, s7, s8, s9⟩ := hSw
    go_simp
    (try simp only [s0, s1, s2, s3, s4, s5, s6, s7, s8, s9])
    (try simp only [bne_self_eq_false])
    try with_reducible rfl
  intro hHeld
  try simp only [Act.put, List.setIfInBounds_toArray, List.set_cons_zero, List.set_cons_succ]
  refine wpAnyR_take 14 rfl (by kernel_rfl) (by kernel_rfl) (by kernel_rfl) (by kernel_rfl) (fun _ _ _ h => h) (by rfl) (v := ?_) ?_ (by assumption) ?_
  rotate_left
  focus
    intro wS hSw
    obtain ⟨s0, s1, s2, s3, s4, s5, s6, s7, s8, s9⟩ := hSw
    go_simp
    (try simp only [s0, s1, s2, s3, s4, s5, s6, s7, s8, s9])
    (try simp only [bne_self_eq_false])
    try with_reducible rfl
  intro hHeld
  try simp only [Act.put, List.setIfInBounds_toArray, List.set_cons_zero, List.set_cons_succ]
  refine wpAnyR_take 16 rfl (by kernel_rfl) (by kernel_rfl) (by kernel_rfl) (by kernel_rfl) (fun _ _ _ h => h) (by rfl) (v := ?_) ?_ (by assumption) ?_
  rotate_left
  focus
    intro wS hSw
    obtain ⟨s0, s1, s2, s3, s4, s5, s6, s7, s8, s9⟩ := hSw
    go_simp
    (try simp only [s0, s1, s2, s3, s4, s5, s6, s7, s8, s9])
    (try simp only [bne_self_eq_false])
    try with_reducible rfl
  intro hHeld
  try simp only [Act.put, List.setIfInBounds_toArray, List.set_cons_zero, List.set_cons_succ]
  refine wpAnyR_take 17 rfl (by kernel_rfl) (by kernel_rfl) (by kernel_rfl) (by kernel_rfl) (fun _ _ _ h => h) (by rfl) (v := ?_) ?_ (by assumption) ?_
  rotate_left
  focus
    intro wS hSw
    obtain ⟨s0, s1, s2, s3, s4, s5, s6, s7, s8, s9⟩ := hSw
    go_simp
    (try simp only [s0, s1, s2, s3, s4, s5, s6, s7, s8, s9])
    (try simp only [bne_self_eq_false])
    try with_reducible rfl
  intro hHeld
  try simp only [Act.put, List.setIfInBounds_toArray, List.set_cons_zero, List.set_cons_succ]
  refine wpAnyR_take 18 rfl (by kernel_rfl) (by kernel_rfl) (by kernel_rfl) (by kernel_rfl) (fun _ _ _ h => h) (by rfl) (v := ?_) ?_ (by assumption) ?_
  rotate_left
  focus
    intro wS hSw
    obtain ⟨s0, s1, s2, s3, s4, s5, s6, s7, s8, s9⟩ := hSw
    go_simp
    (try simp only [s0, s1, s2, s3, s4, s5, s6, s7, s8, s9])
    (try simp only [bne_self_eq_false])
    try with_reducible rfl
  intro hHeld
  try simp only [Act.put, List.setIfInBounds_toArray, List.set_cons_zero, List.set_cons_succ]
  refine wpAnyR_take 19 rfl (by kernel_rfl) (by kernel_rfl) (by kernel_rfl) (by kernel_rfl) (fun _ _ _ h => h) (by rfl) (v := ?_) ?_ (by assumption) ?_
  rotate_left
  focus
    intro wS hSw
    obtain ⟨s0, s1, s2, s3, s4, s5, s6, s7, s8, s9⟩ := hSw
    go_simp
    (try simp only [s0, s1, s2, s3, s4, s5, s6, s7, s8, s9])
    (try simp only [bne_self_eq_false])
    try with_reducible rfl
  intro hHeld
  try simp only [Act.put, List.setIfInBounds_toArray, List.set_cons_zero, List.set_cons_succ]
  have HPO := Lib.hid (pos_any g n c q A wa (HL8.out.low HBA.out).lx.cu)
  refine wpAnyR_step 15 rfl (by kernel_rfl) (fun K hK => ?_)
  go_simp
  go_at_call 16
  refine HPO.out.mono ?_
  rintro r w10 ⟨rfl, rfl⟩
  refine hK.out _ _ (HSW.out _ HBA.out) (fun hHeld => ?_)
  clear hK K
  try simp only [Act.put, List.setIfInBounds_toArray, List.set_cons_zero, List.set_cons_succ]
  have hqn : ((q : Int) != (q : Int)) = false := bne_self_eq_false _
  refine wpAnyR_take 20 rfl (by kernel_rfl) (by kernel_rfl) (by kernel_rfl) (by kernel_rfl) (fun _ _ _ h => h) (by rfl) (v := ?_) ?_ (by assumption) ?_
  rotate_left
  focus
    intro wS hSw
    obtain ⟨s0, s1, s2, s3, s4, s5, s6, s7, s8, s9⟩ := hSw
    go_simp
    (try simp only [s0, s1, s2, s3, s4, s5, s6, s7, s8, s9])
    (try simp only [bne_self_eq_false])
    try with_reducible rfl
  intro hHeld
  try simp only [Act.put, List.setIfInBounds_toArray, List.set_cons_zero, List.set_cons_succ]
  refine wpAnyR_take 21 rfl (by kernel_rfl) (by kernel_rfl) (by kernel_rfl) (by kernel_rfl) (fun _ _ _ h => h) (by rfl) (v := ?_) ?_ (by assumption) ?_
  rotate_left
  focus
    intro wS hSw
    obtain ⟨s0, s1, s2, s3, s4, s5, s6, s7, s8, s9⟩ := hSw
    go_simp
    (try simp only [s0, s1, s2, s3, s4, s5, s6, s7, s8, s9])
    (try simp only [bne_self_eq_false])
    try with_reducible rfl
  intro hHeld
  try simp only [Act.put, List.setIfInBounds_toArray, List.set_cons_zero, List.set_cons_succ]
  refine wpAnyR_done (by kernel_rfl) ?_
  refine NoPanic.normal ?_
  have HLA := Lib.hid (HL8.out.low HBA.out)
  have HDA := Lib.hid (HD8.out.below HBA.out HH8.out.2.1)
  clear hHeld HPO hqn hdn HSW HBU HBT HY4 HY8 HL8 HD8 HBA HH8 HML HLB
  have ka := HLA.out.lx.k0
  go_upto_region 16 with (first
    | (go_at_call 17; refine (HSK.out _ _ HLA.out.lx.cu).mono ?_; (rintro r wb ⟨rfl, hcb, hob⟩); have HLB := Lib.hid (HLA.out.moved (HLA.out.lx.moved hcb hob HKN.out) hob); have HDB := Lib.hid (HDA.out.only hob (by have := HGM.out; omega)); clear hcb hob))
  clear ka
  have fb := HDB.out.fr 1
  have cb := HDB.out.c1
  go_upto_region 17 with fail
  have hox := (Only.refl m wb).set_ 1 (.int .i64 (k : Int))
  have HDC := Lib.hid (HDB.out.setI k (k : Int) rfl)
  have HMB := Lib.hid HDB.out.lt
  have HLC := Lib.hid (HLB.out.onlyM hox HGM.out.1 HGM.out.2 (Nat.le_of_lt HMB.out))
  obtain ⟨wc, hwc⟩ : ∃ wc, wb.setCell ⟨m, 1, none⟩ (.int .i64 (k : Int)) = wc := ⟨_, rfl⟩
  rw [hwc] at HDC HLC
  rw [hwc]
  clear hox fb cb HLB HDB HMB hwc HLA HDA HQ3
  have HKL := Lib.hid (show kwP zs k s ≤ n by have h1 := kwP_le zs k s (by rw [HLN.out]; exact hkn); rw [HLN.out] at h1; exact h1)
  have HKP := Lib.hid (pkeywordC h g n c k g A zs s wc HLC.out.lx HLC.out.bt (Nat.le_refl _) (by omega) (by omega))
  have HRK := Lib.hid (fun W (hl : LD W m 34 [] A n c k) (hb : Byt W g A n c zs) => rkeywordC m n c k g 34 [] A zs s W hl hb (Nat.le_of_lt HGM.out.1) (by omega) hkn (by omega))
  obtain ⟨kb, hkb⟩ : ∃ kb, kwB zs k s = kb := ⟨_, rfl⟩
  obtain ⟨kp, hkp⟩ : ∃ kp, kwP zs k s = kp := ⟨_, rfl⟩
  rw [hkb, hkp] at HKP HRK
  rw [hkp] at HKL
  clear hkb hkp
  go_upto_region 18 with (first
    | (go_at_call 18; refine HKP.out.mono ?_; (rintro r wd ⟨rfl, hxd, hod⟩); have HLD := Lib.hid (HLC.out.moved hxd hod); have HDD := Lib.hid (HDC.out.only hod (by have := HGM.out; omega)); clear hxd hod))
  have HLW := Lib.hid (HLD.out.low ((Below.refl wd.heap.size wd).drew))
  have HDW := Lib.hid (HDD.out.below ((Below.refl wd.heap.size wd).drew) HDD.out.lt)
  refine wp_region_heldR (fun W => W.cell? ⟨h, 0, none⟩ = some (.pointer (some ⟨g, 0, none⟩)) ∧ W.cell? ⟨h, 0, none⟩ = some (.pointer (some ⟨g, 0, none⟩))) 1000 (by kernel_rfl) ⟨HLW.out.lx.k0, HLW.out.lx.k0⟩ (fun hHeld => ?_)
  refine wpAnyR_take 0 rfl (by kernel_rfl) (by kernel_rfl) (by kernel_rfl) (by kernel_rfl) (fun _ _ _ h => h) (by rfl) (v := ?_) ?_ (by assumption) ?_
  rotate_left
  focus
    intro wS hSw
    obtain ⟨s0, s1⟩ := hSw
    go_simp
    (try simp only [s0, s1])
    (try simp only [bne_self_eq_false, beq_self_eq_true])
    try with_reducible rfl
  intro hHeld
  try simp only [Act.put, List.setIfInBounds_toArray, List.set_cons_zero, List.set_cons_succ]
  refine wpAnyR_take 1 rfl (by kernel_rfl) (by kernel_rfl) (by kernel_rfl) (by kernel_rfl) (fun _ _ _ h => h) (by rfl) (v := ?_) ?_ (by assumption) ?_
  rotate_left
  focus
    intro wS hSw
    obtain ⟨s0, s1⟩ := hSw
    go_simp
    (try simp only [s0, s1])
    (try simp only [bne_self_eq_false, beq_self_eq_true])
    try with_reducible rfl
  intro hHeld
  try simp only [Act.put, List.setIfInBounds_toArray, List.set_cons_zero, List.set_cons_succ]
  refine wpAnyR_take 2 rfl (by kernel_rfl) (by kernel_rfl) (by kernel_rfl) (by kernel_rfl) (fun _ _ _ h => h) (by rfl) (v := ?_) ?_ (by assumption) ?_
  rotate_left
  focus
    intro wS hSw
    obtain ⟨s0, s1⟩ := hSw
    go_simp
    (try simp only [s0, s1])
    (try simp only [bne_self_eq_false, beq_self_eq_true])
    try with_reducible rfl
  intro hHeld
  try simp only [Act.put, List.setIfInBounds_toArray, List.set_cons_zero, List.set_cons_succ]
  clear hHeld
  refine wpAnyR_step 3 rfl (by kernel_rfl) (fun K hK => ?_)
  go_simp
  go_at_call 19
  refine (HRK.out _ HDW.out HLW.out.bt).mono ?_
  rintro r we ⟨rfl, hde, hoe⟩
  have HDE := Lib.hid hde
  have HLE := Lib.hid (HLW.out.onlyM hoe HGM.out.1 HGM.out.2 (Nat.le_of_lt HDW.out.lt))
  clear hde hoe
  refine hK.out _ _ (⟨HLE.out.lx.k0, HLE.out.lx.k0⟩) (fun hHeld => ?_)
  clear hK K
  try simp only [Act.put, List.setIfInBounds_toArray, List.set_cons_zero, List.set_cons_succ]
  refine wpAnyR_sharp (S' := fun W => W.cell? ⟨h, 0, none⟩ = some (.pointer (some ⟨g, 0, none⟩)) ∧ W.cell? ⟨m, 1, none⟩ = some (.int .i64 (kp : Int))) (fun _ hS => ⟨hS.1, hS.1⟩) _ _ _ _ ?_
  clear hHeld
  have hHeld := (show we.cell? ⟨h, 0, none⟩ = some (.pointer (some ⟨g, 0, none⟩)) ∧ we.cell? ⟨m, 1, none⟩ = some (.int .i64 (kp : Int)) from ⟨HLE.out.lx.k0, HDE.out.c1⟩)
  refine wpAnyR_take 4 rfl (by kernel_rfl) (by kernel_rfl) (by kernel_rfl) (by kernel_rfl) (fun _ _ _ h => h) (by rfl) (v := ?_) ?_ (by assumption) ?_
  rotate_left
  focus
    intro wS hSw
    obtain ⟨s0, s1⟩ := hSw
    go_simp
    (try simp only [s0, s1])
    (try simp only [bne_self_eq_false, beq_self_eq_true])
    try with_reducible rfl
  intro hHeld
  try simp only [Act.put, List.setIfInBounds_toArray, List.set_cons_zero, List.set_cons_succ]
  refine wpAnyR_take 5 rfl (by kernel_rfl) (by kernel_rfl) (by kernel_rfl) (by kernel_rfl) (fun _ _ _ h => h) (by rfl) (v := ?_) ?_ (by assumption) ?_
  rotate_left
  focus
    intro wS hSw
    obtain ⟨s0, s1⟩ := hSw
    go_simp
    (try simp only [s0, s1])
    (try simp only [bne_self_eq_false, beq_self_eq_true])
    try with_reducible rfl
  intro hHeld
  try simp only [Act.put, List.setIfInBounds_toArray, List.set_cons_zero, List.set_cons_succ]
  refine wpAnyR_take 6 rfl (by kernel_rfl) (by kernel_rfl) (by kernel_rfl) (by kernel_rfl) (fun _ _ _ h => h) (by rfl) (v := ?_) ?_ (by assumption) ?_
  rotate_left
  focus
    intro wS hSw
    obtain ⟨s0, s1⟩ := hSw
    go_simp
    (try simp only [s0, s1])
    (try simp only [bne_self_eq_false, beq_self_eq_true])
    try with_reducible rfl
  intro hHeld
  try simp only [Act.put, List.setIfInBounds_toArray, List.set_cons_zero, List.set_cons_succ]
  refine wpAnyR_take 7 rfl (by kernel_rfl) (by kernel_rfl) (by kernel_rfl) (by kernel_rfl) (fun _ _ _ h => h) (by rfl) (v := ?_) ?_ (by assumption) ?_
  rotate_left
  focus
    intro wS hSw
    obtain ⟨s0, s1⟩ := hSw
    go_simp
    (try simp only [s0, s1])
    (try simp only [bne_self_eq_false, beq_self_eq_true])
    try with_reducible rfl
  intro hHeld
  try simp only [Act.put, List.setIfInBounds_toArray, List.set_cons_zero, List.set_cons_succ]
  refine wpAnyR_take 8 rfl (by kernel_rfl) (by kernel_rfl) (by kernel_rfl) (by kernel_rfl) (fun _ _ _ h => h) (by rfl) (v := ?_) ?_ (by assumption) ?_
  rotate_left
  focus
    intro wS hSw
    obtain ⟨s0, s1⟩ := hSw
    go_simp
    (try simp only [s0, s1])
    (try simp only [bne_self_eq_false, beq_self_eq_true])
    try with_reducible rfl
  intro hHeld
  try simp only [Act.put, List.setIfInBounds_toArray, List.set_cons_zero, List.set_cons_succ]
  refine wpAnyR_take 9 rfl (by kernel_rfl) (by kernel_rfl) (by kernel_rfl) (by kernel_rfl) (fun _ _ _ h => h) (by rfl) (v := ?_) ?_ (by assumption) ?_
  rotate_left
  focus
    intro wS hSw
    obtain ⟨s0, s1⟩ := hSw
    go_simp
    (try simp only [s0, s1])
    (try simp only [bne_self_eq_false, beq_self_eq_true])
    try with_reducible rfl
  intro hHeld
  try simp only [Act.put, List.setIfInBounds_toArray, List.set_cons_zero, List.set_cons_succ]
  refine wpAnyR_take 11 rfl (by kernel_rfl) (by kernel_rfl) (by kernel_rfl) (by kernel_rfl) (fun _ _ _ h => h) (by rfl) (v := ?_) ?_ (by assumption) ?_
  rotate_left
  focus
    intro wS hSw
    obtain ⟨s0, s1⟩ := hSw
    go_simp
    (try simp only [s0, s1])
    (try simp only [bne_self_eq_false, beq_self_eq_true])
    try with_reducible rfl
  intro hHeld
  try simp only [Act.put, List.setIfInBounds_toArray, List.set_cons_zero, List.set_cons_succ]
  refine wpAnyR_take 12 rfl (by kernel_rfl) (by kernel_rfl) (by kernel_rfl) (by kernel_rfl) (fun _ _ _ h => h) (by rfl) (v := ?_) ?_ (by assumption) ?_
  rotate_left
  focus
    intro wS hSw
    obtain ⟨s0, s1⟩ := hSw
    go_simp
    (try simp only [s0, s1])
    (try simp only [bne_self_eq_false, beq_self_eq_true])
    try with_reducible rfl
  intro hHeld
  try simp only [Act.put, List.setIfInBounds_toArray, List.set_cons_zero, List.set_cons_succ]
  refine wpAnyR_take 13 rfl (by kernel_rfl) (by kernel_rfl) (by kernel_rfl) (by kernel_rfl) (fun _ _ _ h => h) (by rfl) (v := ?_) ?_ (by assumption) ?_
  rotate_left
  focus
    intro wS hSw
    obtain ⟨s0, s1⟩ := hSw
    go_simp
    (try simp only [s0, s1])
    (try simp only [bne_self_eq_false, beq_self_eq_true])
    try with_reducible rfl
  intro hHeld
  try simp only [Act.put, List.setIfInBounds_toArray, List.set_cons_zero, List.set_cons_succ]
  refine wpAnyR_take 14 rfl (by kernel_rfl) (by kernel_rfl) (by kernel_rfl) (by kernel_rfl) (fun _ _ _ h => h) (by rfl) (v := ?_) ?_ (by assumption) ?_
  rotate_left
  focus
    intro wS hSw
    obtain ⟨s0, s1⟩ := hSw
    go_simp
    (try simp only [s0, s1])
    (try simp only [bne_self_eq_false, beq_self_eq_true])
    try with_reducible rfl
  intro hHeld
  try simp only [Act.put, List.setIfInBounds_toArray, List.set_cons_zero, List.set_cons_succ]
  have HPE := Lib.hid (pos_any g n c kp A we HLE.out.lx.cu)
  refine wpAnyR_step 10 rfl (by kernel_rfl) (fun K hK => ?_)
  go_simp
  go_at_call 16
  refine HPE.out.mono ?_
  rintro r we2 ⟨rfl, rfl⟩
  refine hK.out _ _ (⟨HLE.out.lx.k0, HDE.out.c1⟩) (fun hHeld => ?_)
  clear hK K
  try simp only [Act.put, List.setIfInBounds_toArray, List.set_cons_zero, List.set_cons_succ]
  refine wpAnyR_take 15 rfl (by kernel_rfl) (by kernel_rfl) (by kernel_rfl) (by kernel_rfl) (fun _ _ _ h => h) (by rfl) (v := ?_) ?_ (by assumption) ?_
  rotate_left
  focus
    intro wS hSw
    obtain ⟨s0, s1⟩ := hSw
    go_simp
    (try simp only [s0, s1])
    (try simp only [bne_self_eq_false, beq_self_eq_true])
    try with_reducible rfl
  intro hHeld
  try simp only [Act.put, List.setIfInBounds_toArray, List.set_cons_zero, List.set_cons_succ]
  refine wpAnyR_take 16 rfl (by kernel_rfl) (by kernel_rfl) (by kernel_rfl) (by kernel_rfl) (fun _ _ _ h => h) (by rfl) (v := ?_) ?_ (by assumption) ?_
  rotate_left
  focus
    intro wS hSw
    obtain ⟨s0, s1⟩ := hSw
    go_simp
    (try simp only [s0, s1])
    (try simp only [bne_self_eq_false, beq_self_eq_true])
    try with_reducible rfl
  intro hHeld
  try simp only [Act.put, List.setIfInBounds_toArray, List.set_cons_zero, List.set_cons_succ]
  refine wpAnyR_done (by kernel_rfl) ?_
  refine NoPanic.normal ?_
  clear hHeld HPE HLW HDW HRK HKP HLD HDD HLC HDC
  have HBP := Lib.hid (pblankC h g n c kp g A zs we HLE.out.lx HLE.out.bt (Nat.le_refl _) (by omega))
  have HBR := Lib.hid (fun W (hl : LD W m 34 [] A n c kp) (hb : Byt W g A n c zs) => rblankC m n c kp g 34 [] A zs W hl hb (Nat.le_of_lt HGM.out.1) (by omega) HKL.out)
  obtain ⟨bq, hbq⟩ : ∃ bq, blkP zs kp = bq := ⟨_, rfl⟩
  rw [hbq] at HBP HBR
  clear hbq
  go_upto_region 22 with (first
    | (go_at_call 20; refine HBP.out.mono ?_; (rintro r wf ⟨rfl, hxf, hof⟩); have HLF := Lib.hid (HLE.out.moved hxf hof); have HDF := Lib.hid (HDE.out.only hof (by have := HGM.out; omega)); clear hxf hof)
    | (go_at_call 21; refine (HBR.out _ HDF.out HLF.out.bt).mono ?_; (rintro r wg ⟨rfl, hdg, hog⟩); have HDG := Lib.hid hdg; have HLG := Lib.hid (HLF.out.onlyM hog HGM.out.1 HGM.out.2 (Nat.le_of_lt HDF.out.lt)); clear hdg hog))
  have HLW := Lib.hid (HLG.out.low ((Below.refl wg.heap.size wg).drew))
  have HDW := Lib.hid (HDG.out.below ((Below.refl wg.heap.size wg).drew) HDG.out.lt)
  obtain ⟨ww, hww⟩ : ∃ ww, wg.drew = ww := ⟨_, rfl⟩
  refine wp_region_heldR (fun W => W.cell? ⟨h, 0, none⟩ = some (.pointer (some ⟨g, 0, none⟩)) ∧ W.cell? ⟨m, 1, none⟩ = some (.int .i64 (bq : Int))) 1000 (by kernel_rfl) ⟨HLW.out.lx.k0, HDW.out.c1⟩ (fun hHeld => ?_)
  rw [hww] at HLW HDW hHeld
  rw [hww]
  refine wpAnyR_take 0 rfl (by kernel_rfl) (by kernel_rfl) (by kernel_rfl) (by kernel_rfl) (fun _ _ _ h => h) (by rfl) (v := ?_) ?_ (by assumption) ?_
  rotate_left
  focus
    intro wS hSw
    obtain ⟨s0, s1⟩ := hSw
    go_simp
    (try simp only [s0, s1])
    (try simp only [bne_self_eq_false, beq_self_eq_true])
    try with_reducible rfl
  intro hHeld
  try simp only [Act.put, List.setIfInBounds_toArray, List.set_cons_zero, List.set_cons_succ]
  refine wpAnyR_take 1 rfl (by kernel_rfl) (by kernel_rfl) (by kernel_rfl) (by kernel_rfl) (fun _ _ _ h => h) (by rfl) (v := ?_) ?_ (by assumption) ?_
  rotate_left
  focus
    intro wS hSw
    obtain ⟨s0, s1⟩ := hSw
    go_simp
    (try simp only [s0, s1])
    (try simp only [bne_self_eq_false, beq_self_eq_true])
    try with_reducible rfl
  intro hHeld
  try simp only [Act.put, List.setIfInBounds_toArray, List.set_cons_zero, List.set_cons_succ]
  refine wpAnyR_take 2 rfl (by kernel_rfl) (by kernel_rfl) (by kernel_rfl) (by kernel_rfl) (fun _ _ _ h => h) (by rfl) (v := ?_) ?_ (by assumption) ?_
  rotate_left
  focus
    intro wS hSw
    obtain ⟨s0, s1⟩ := hSw
    go_simp
    (try simp only [s0, s1])
    (try simp only [bne_self_eq_false, beq_self_eq_true])
    try with_reducible rfl
  intro hHeld
  try simp only [Act.put, List.setIfInBounds_toArray, List.set_cons_zero, List.set_cons_succ]
  refine wpAnyR_take 3 rfl (by kernel_rfl) (by kernel_rfl) (by kernel_rfl) (by kernel_rfl) (fun _ _ _ h => h) (by rfl) (v := ?_) ?_ (by assumption) ?_
  rotate_left
  focus
    intro wS hSw
    obtain ⟨s0, s1⟩ := hSw
    go_simp
    (try simp only [s0, s1])
    (try simp only [bne_self_eq_false, beq_self_eq_true])
    try with_reducible rfl
  intro hHeld
  try simp only [Act.put, List.setIfInBounds_toArray, List.set_cons_zero, List.set_cons_succ]
  refine wpAnyR_take 5 rfl (by kernel_rfl) (by kernel_rfl) (by kernel_rfl) (by kernel_rfl) (fun _ _ _ h => h) (by rfl) (v := ?_) ?_ (by assumption) ?_
  rotate_left
  focus
    intro wS hSw
    obtain ⟨s0, s1⟩ := hSw
    go_simp
    (try simp only [s0, s1])
    (try simp only [bne_self_eq_false, beq_self_eq_true])
    try with_reducible rfl
  intro hHeld
  try simp only [Act.put, List.setIfInBounds_toArray, List.set_cons_zero, List.set_cons_succ]
  refine wpAnyR_take 6 rfl (by kernel_rfl) (by kernel_rfl) (by kernel_rfl) (by kernel_rfl) (fun _ _ _ h => h) (by rfl) (v := ?_) ?_ (by assumption) ?_
  rotate_left
  focus
    intro wS hSw
    obtain ⟨s0, s1⟩ := hSw
    go_simp
    (try simp only [s0, s1])
    (try simp only [bne_self_eq_false, beq_self_eq_true])
    try with_reducible rfl
  intro hHeld
  try simp only [Act.put, List.setIfInBounds_toArray, List.set_cons_zero, List.set_cons_succ]
  refine wpAnyR_take 7 rfl (by kernel_rfl) (by kernel_rfl) (by kernel_rfl) (by kernel_rfl) (fun _ _ _ h => h) (by rfl) (v := ?_) ?_ (by assumption) ?_
  rotate_left
  focus
    intro wS hSw
    obtain ⟨s0, s1⟩ := hSw
    go_simp
    (try simp only [s0, s1])
    (try simp only [bne_self_eq_false, beq_self_eq_true])
    try with_reducible rfl
  intro hHeld
  try simp only [Act.put, List.setIfInBounds_toArray, List.set_cons_zero, List.set_cons_succ]
  refine wpAnyR_take 8 rfl (by kernel_rfl) (by kernel_rfl) (by kernel_rfl) (by kernel_rfl) (fun _ _ _ h => h) (by rfl) (v := ?_) ?_ (by assumption) ?_
  rotate_left
  focus
    intro wS hSw
    obtain ⟨s0, s1⟩ := hSw
    go_simp
    (try simp only [s0, s1])
    (try simp only [bne_self_eq_false, beq_self_eq_true])
    try with_reducible rfl
  intro hHeld
  try simp only [Act.put, List.setIfInBounds_toArray, List.set_cons_zero, List.set_cons_succ]
  have HPG := Lib.hid (pos_any g n c bq A ww HLW.out.lx.cu)
  refine wpAnyR_step 4 rfl (by kernel_rfl) (fun K hK => ?_)
  go_simp
  go_at_call 16
  refine HPG.out.mono ?_
  rintro r ww2 ⟨rfl, rfl⟩
  refine hK.out _ _ (⟨HLW.out.lx.k0, HDW.out.c1⟩) (fun hHeld => ?_)
  clear hK K
  try simp only [Act.put, List.setIfInBounds_toArray, List.set_cons_zero, List.set_cons_succ]
  refine wpAnyR_take 9 rfl (by kernel_rfl) (by kernel_rfl) (by kernel_rfl) (by kernel_rfl) (fun _ _ _ h => h) (by rfl) (v := ?_) ?_ (by assumption) ?_
  rotate_left
  focus
    intro wS hSw
    obtain ⟨s0, s1⟩ := hSw
    go_simp
    (try simp only [s0, s1])
    (try simp only [bne_self_eq_false, beq_self_eq_true])
    try with_reducible rfl
  intro hHeld
  try simp only [Act.put, List.setIfInBounds_toArray, List.set_cons_zero, List.set_cons_succ]
  refine wpAnyR_take 10 rfl (by kernel_rfl) (by kernel_rfl) (by kernel_rfl) (by kernel_rfl) (fun _ _ _ h => h) (by rfl) (v := ?_) ?_ (by assumption) ?_
  rotate_left
  focus
    intro wS hSw
    obtain ⟨s0, s1⟩ := hSw
    go_simp
    (try simp only [s0, s1])
    (try simp only [bne_self_eq_false, beq_self_eq_true])
    try with_reducible rfl
  intro hHeld
  try simp only [Act.put, List.setIfInBounds_toArray, List.set_cons_zero, List.set_cons_succ]
  refine wpAnyR_take 11 rfl (by kernel_rfl) (by kernel_rfl) (by kernel_rfl) (by kernel_rfl) (fun _ _ _ h => h) (by rfl) (v := ?_) ?_ (by assumption) ?_
  rotate_left
  focus
    intro wS hSw
    obtain ⟨s0, s1⟩ := hSw
    go_simp
    (try simp only [s0, s1])
    (try simp only [bne_self_eq_false, beq_self_eq_true])
    try with_reducible rfl
  intro hHeld
  try simp only [Act.put, List.setIfInBounds_toArray, List.set_cons_zero, List.set_cons_succ]
  refine wpAnyR_take 13 rfl (by kernel_rfl) (by kernel_rfl) (by kernel_rfl) (by kernel_rfl) (fun _ _ _ h => h) (by rfl) (v := ?_) ?_ (by assumption) ?_
  rotate_left
  focus
    intro wS hSw
    obtain ⟨s0, s1⟩ := hSw
    go_simp
    (try simp only [s0, s1])
    (try simp only [bne_self_eq_false, beq_self_eq_true])
    try with_reducible rfl
  intro hHeld
  try simp only [Act.put, List.setIfInBounds_toArray, List.set_cons_zero, List.set_cons_succ]
  refine wpAnyR_step 12 rfl (by kernel_rfl) (fun K hK => ?_)
  go_simp
  go_at_call 22
  refine (pregC x ww).mono ?_
  rintro r ww3 ⟨rfl, rfl⟩
  refine hK.out _ _ (⟨HLW.out.lx.k0, HDW.out.c1⟩) (fun hHeld => ?_)
  clear hK K
  try simp only [Act.put, List.setIfInBounds_toArray, List.set_cons_zero, List.set_cons_succ]
  refine wpAnyR_step 14 rfl (by kernel_rfl) (fun K hK => ?_)
  go_simp
  go_at_call 23
  refine (rregC x ww).mono ?_
  rintro r ww4 ⟨rfl, rfl⟩
  refine hK.out _ _ (⟨HLW.out.lx.k0, HDW.out.c1⟩) (fun hHeld => ?_)
  clear hK K
  try simp only [Act.put, List.setIfInBounds_toArray, List.set_cons_zero, List.set_cons_succ]
  refine wpAnyR_take 15 rfl (by kernel_rfl) (by kernel_rfl) (by kernel_rfl) (by kernel_rfl) (fun _ _ _ h => h) (by rfl) (v := ?_) ?_ (by assumption) ?_
  rotate_left
  focus
    intro wS hSw
    obtain ⟨s0, s1⟩ := hSw
    go_simp
    (try simp only [s0, s1])
    (try simp only [bne_self_eq_false, beq_self_eq_true])
    try with_reducible rfl
  intro hHeld
  try simp only [Act.put, List.setIfInBounds_toArray, List.set_cons_zero, List.set_cons_succ]
  refine wpAnyR_take 16 rfl (by kernel_rfl) (by kernel_rfl) (by kernel_rfl) (by kernel_rfl) (fun _ _ _ h => h) (by rfl) (v := ?_) ?_ (by assumption) ?_
  rotate_left
  focus
    intro wS hSw
    obtain ⟨s0, s1⟩ := hSw
    go_simp
    (try simp only [s0, s1])
    (try simp only [bne_self_eq_false, beq_self_eq_true])
    try with_reducible rfl
  intro hHeld
  try simp only [Act.put, List.setIfInBounds_toArray, List.set_cons_zero, List.set_cons_succ]
  refine wpAnyR_take 17 rfl (by kernel_rfl) (by kernel_rfl) (by kernel_rfl) (by kernel_rfl) (fun _ _ _ h => h) (by rfl) (v := ?_) ?_ (by assumption) ?_
  rotate_left
  focus
    intro wS hSw
    obtain ⟨s0, s1⟩ := hSw
    go_simp
    (try simp only [s0, s1])
    (try simp only [bne_self_eq_false, beq_self_eq_true])
    try with_reducible rfl
  intro hHeld
  try simp only [Act.put, List.setIfInBounds_toArray, List.set_cons_zero, List.set_cons_succ]
  refine wpAnyR_done (by kernel_rfl) ?_
  refine NoPanic.normal ?_
  go_wp2_with fail
  go_ret
  exact ⟨rfl, HLW.out.bl⟩
theorem anyw_walk (A : Option Addr) (n c : Nat) (zs : List Int) (x : Int) (s : ByteArray) (w : World) (hz : Byt w w.heap.size A n c zs) (hn : n ≤ 9223372036854775807) (x0 : -9223372036854775808 ≤ x) (x1 : x ≤ 9223372036854775807) :
    Calls Try.prog 5 #[.slice A n c, .int .i64 x, .string s] w fun e w' => e = .returned (.bool true) ∧ Below w.heap.size w w' := by
  by_cases h : 500 < n ∨ 50 < s.size
  · exact anyw_out A n c x s w hn h
  · by_cases h0 : n = 0
    · exact anyw_zero A n c x s zs w hz (by omega) (by omega) x0 x1 h0
    · exact anyw_pos A n c x s zs w hz (by omega) (by omega) x0 x1 (by omega)
set_option maxRecDepth 100000 in
theorem anyw_lifted (os : Os) (started : os.Started) (H : Type) (enc : TypeId × Value → H) :
    ReturnsInHanded {} Try.checked os 5 .any (Rows.lexAnywhereSpec.pre6 enc Try.prog Try.f5 Rows.lexAnywhereRow.domain false) (Rows.lexAnywhereSpec.post enc Try.prog Try.f5 false true false false) := by
  refine returnsInHanded_of_change (C := Try.checked) own started (by kernel_rfl) Try.func5
    (ChangeSpec.witness6 (enc := enc) (C := Try.checked) false ⟨#[], #[.slice none 0 0, .int .i64 0, .string ⟨#[]⟩], []⟩ 8 (by kernel_rfl) (by kernel_rfl) (by kernel_rfl) (by kernel_rfl)) ?_
  intro W base args ds gs before hval0 hW hcnd _
  have hval : ∀ (j : Nat) t v, Try.f5.params[j]? = some t → args[j]? = some v → Value.okWide Try.prog W .any base t v := hval0
  have hW' := hW
  obtain ⟨p, q, hA0, hV, rfl, hfz, hnd⟩ := hW
  have hA : DataW.TrodAll enc Try.prog W 0 (fun _ => true) true Try.f5.params.toList args.toList ds p := hA0
  rw [Try.params5] at hA hval
  obtain ⟨v0, vs0, d0, ds0, p0, q0, hargs, rfl, rfl, h0, r0⟩ := trodAll_cons hA
  obtain ⟨v1, vs1, d1, ds1, p1, q1, rfl, rfl, rfl, h1, r1⟩ := trodAll_cons r0
  obtain ⟨v2, vs2, d2, ds2, p2, q2, rfl, rfl, rfl, h2, r2⟩ := trodAll_cons r1
  obtain ⟨rfl, rfl, rfl⟩ := trodAll_nil r2
  obtain rfl : args = #[v0, v1, v2] := by cases args; simp_all
  obtain ⟨rfl, rfl⟩ := trodVars_none hV
  obtain ⟨a0, len0, cap0, rfl⟩ := okWide_slice Try.underlying25 (hval 0 25 v0 rfl rfl)
  obtain ⟨zs0, hz0, hcm0⟩ := open_bytes h0 (fun _ => rfl)
  have lt0 : ∀ x ∈ p0, x.block < W.heap.size := by obtain ⟨m, hm⟩ := h0; exact DataW.trod_lt m _ _ _ hm
  obtain ⟨x1, rfl⟩ := okWide_int Try.underlying3 (hval 1 3 v1 rfl rfl)
  obtain ⟨lo1, hi1⟩ := open_intk Try.underlying3 h1
  rw [show IntKind.i64.min = -9223372036854775808 by decide] at lo1
  rw [show IntKind.i64.max = 9223372036854775807 by decide] at hi1
  have lt1 : ∀ x ∈ p1, x.block < W.heap.size := by obtain ⟨m, hm⟩ := h1; exact DataW.trod_lt m _ _ _ hm
  obtain ⟨s2, rfl⟩ := okWide_string Try.underlying9 (hval 2 9 v2 rfl rfl)
  have lt2 : ∀ x ∈ p2, x.block < W.heap.size := by obtain ⟨m, hm⟩ := h2; exact DataW.trod_lt m _ _ _ hm
  have hmx : maxLen = 9223372036854775807 := by decide
  clear hA0 hval0
  refine (anyw_walk a0 len0 cap0 zs0 x1 s2 W hz0 (by have := hz0.cap; omega) lo1 hi1).mono fun e W' ⟨he, bel⟩ => ?_
  subst he
  exact ⟨_, rfl, _, _, _, [], _, [], hW', trodAll_mk1 (shut_bool Try.underlying4 _), (trodAll_cons_mk (Below.trod laidOut (by kernel_rfl) (of_decide_eq_true (by kernel_rfl)) h0 bel lt0) (trodAll_cons_mk (Below.trod laidOut (by kernel_rfl) (of_decide_eq_true (by kernel_rfl)) h1 bel lt1) (trodAll_cons_mk (Below.trod laidOut (by kernel_rfl) (of_decide_eq_true (by kernel_rfl)) h2 bel lt2) trodAll_mk0))), rfl, bel.frame _, fun h => by cases h⟩

/-- LexAnywhere: it answers true. -/
theorem anyw_holds : Rows.LexAnywhereSaid :=
  OpenClaim.holds_of_wide 5 Try.f5 rfl rfl rfl rfl rfl rfl rfl ⟨rfl, rfl, rfl, rfl, rfl⟩ rfl rfl rfl rfl rfl (by kernel_rfl) Try.func5 (by kernel_rfl)
    (of_decide_eq_true (by kernel_rfl)) (by unfold Func.isWrapper; first | (rw [if_pos (by decide +kernel)]; kernel_rfl) | (rw [if_neg (by decide +kernel)]; exact ⟨rfl, rfl⟩))
    (fun os started H enc _ => anyw_lifted os started H enc)
#print axioms anyw_holds

end Go.Proofs.Ytojbhckgegoldaa
