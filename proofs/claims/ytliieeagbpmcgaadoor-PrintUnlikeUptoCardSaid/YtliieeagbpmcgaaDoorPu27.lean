/- Contracts of functions that the law calls, and what they lean on (a part). -/
import Derived.Test.YtliieeagbpmcgaaDoorPu7
import Derived.Test.YtliieeagbpmcgaaDoorPu22
namespace Go.Proofs.YtliieeagbpmcgaaDoor
section
open Go.RowKit
set_option linter.unusedVariables false
set_option maxRecDepth 100000
theorem bytS_nil (w : World) (S : Nat → Prop) : BytS w S none 0 0 [] := ⟨rfl, by omega, (fun _ h => by cases h), fun h => absurd h (by omega)⟩
theorem ObR.plain {w : World} {S : Nat → Prop} {k n : Int} {A : Option Addr} {m c : Nat} {b : List Int} (hk : -9223372036854775808 ≤ k ∧ k ≤ 9223372036854775807) (hn : -9223372036854775808 ≤ n ∧ n ≤ 9223372036854775807) (hb : BytS w S A m c b) :
    ObR w S (.mk k n b .nil .nil) (.int .i64 k) (.int .i64 n) (.slice A m c) (.slice none 0 0) (.slice none 0 0) := by
  unfold ObR
  exact ⟨rfl, rfl, hk, hn, ⟨A, m, c, rfl, hb⟩, ⟨none, 0, rfl, by simp [Obs.len], fun h => absurd h (by simp [Obs.len])⟩, ⟨none, 0, rfl, by simp [Ens.len], fun h => absurd h (by simp [Ens.len])⟩⟩
theorem intC (n : Int) (w : World) (hn : -9223372036854775808 ≤ n ∧ n ≤ 9223372036854775807) : Calls Tryd.prog 12 #[.int .i64 n] w (CpP w (.mk 2 n [] .nil .nil)) := by
  go_enter Tryd.func12, Tryd.ntmps12
  go_wp2_with fail
  refine bodyPost_ret (results_cell_row rfl _ _ w.heap.size 26 _ (0, 0) _ rfl (heap_alloc_new w _) Tryd.underlying26 rfl (by kernel_rfl)) rfl ?_
  exact ⟨_, _, _, _, _, rfl, ObR.plain (by omega) hn (bytS_nil _ _), (Below.refl _ _).alloc (Nat.le_refl _) _⟩
theorem strC (A : Option Addr) (m c : Nat) (b : List Int) (w : World) (hb : Byt w w.heap.size A m c b) (hm : m ≤ 100000000) : Calls Tryd.prog 14 #[.slice A m c] w (CpP w (.mk 4 0 b .nil .nil)) := by
  have HCP := Lib.hid (fun W (hW : Below w.heap.size w W) => refCopy A m c b W ((hb.below hW (Nat.le_refl _)).more hW.size) hm)
  clear hb
  have HB := Lib.hid ((Below.refl w.heap.size w).alloc (Nat.le_refl _) (.cells #[.int .i64 0, .int .i64 0, .slice none 0 0, .slice none 0 0, .slice none 0 0] 26))
  have HN := Lib.hid (heap_alloc_new w (.cells #[.int .i64 0, .int .i64 0, .slice none 0 0, .slice none 0 0, .slice none 0 0] 26))
  obtain ⟨W0, hW0⟩ : ∃ W0, w.alloc (.cells #[.int .i64 0, .int .i64 0, .slice none 0 0, .slice none 0 0, .slice none 0 0] 26) = W0 := ⟨_, rfl⟩
  have hs0 : W0.heap.size = w.heap.size + 1 := by rw [← hW0]; simp
  rw [hW0] at HB HN
  have HS0 := Lib.hid hs0
  obtain ⟨q0, q1, q2, q3, q4, q5⟩ := zero_cells HN.out
  clear hs0
  go_enter Tryd.func14, Tryd.ntmps14
  go_wp2_with (go_at_call 19; refine (HCP.out _ HB.out).mono ?_; (rintro r w2 ⟨v, rfl, hm2, hb2⟩); have HB2 := Lib.hid (HB.out.trans (hb2.mono HB.out.size)); have HN2 := Lib.hid (blk_keep9 hb2 HN.out); obtain ⟨A2, c2, rfl, hy2⟩ := hm2.bytS; have HY2 := Lib.hid hy2; obtain ⟨r0, r1, r2, r3, r4, r5⟩ := zero_cells HN2.out; clear hb2 hm2 hy2)
  refine bodyPost_ret (results_cell_row rfl _ _ w.heap.size 26 _ (0, 0) _ rfl (set5_row HN2.out) Tryd.underlying26 rfl (by kernel_rfl)) rfl ?_
  exact ⟨_, _, _, _, _, rfl, ObR.plain (by omega) (by omega) (HY2.out.keep (fun g hg => heap_set5 (by have := hg.1; have := HS0.out; omega)) (fun g hg => ⟨by have := hg.1; have := HS0.out; omega, by rw [size_set5]; exact hg.2⟩)), below_set5 HB2.out (Nat.le_refl _)⟩
theorem nameOC (s : ByteArray) (w : World) (hs : s.size ≤ 1000000) : Calls Tryd.prog 13 #[.string s] w (CpP w (.mk 5 0 (strZ s) .nil .nil)) := by
  have HB := Lib.hid ((Below.refl w.heap.size w).alloc (Nat.le_refl _) (.cells #[.int .i64 0, .int .i64 0, .slice none 0 0, .slice none 0 0, .slice none 0 0] 26))
  have HN := Lib.hid (heap_alloc_new w (.cells #[.int .i64 0, .int .i64 0, .slice none 0 0, .slice none 0 0, .slice none 0 0] 26))
  obtain ⟨W0, hW0⟩ : ∃ W0, w.alloc (.cells #[.int .i64 0, .int .i64 0, .slice none 0 0, .slice none 0 0, .slice none 0 0] 26) = W0 := ⟨_, rfl⟩
  have hs0 : W0.heap.size = w.heap.size + 1 := by rw [← hW0]; simp
  rw [hW0] at HB HN
  have HS0 := Lib.hid hs0
  obtain ⟨q0, q1, q2, q3, q4, q5⟩ := zero_cells HN.out
  clear hs0
  have hcv : ∀ W, (convert 9 22 (.string s)).run Tryd.prog W = .ok (.slice (some ⟨W.heap.size, 0, none⟩) s.size (grownCap W s.size 0 5)) (Lib.bytesWorld W 5 s) := fun W => Lib.run_convert_string_bytes W 9 22 5 s Tryd.underlying9 Tryd.underlying22 Tryd.underlying5
  have HN2 : Hid ((Lib.bytesWorld W0 5 s).heap[w.heap.size]? = _) := Lib.hid ((Lib.bytesWorld_at_old W0 5 s w.heap.size (by have := HS0.out; omega)).trans HN.out)
  have HB2 := Lib.hid (HB.out.trans ((strZ_below W0 s).mono HB.out.size))
  have hy := strZ_byt W0 s
  have HY2 : Hid (BytS (Lib.bytesWorld W0 5 s) (fun g => g = W0.heap.size) (some ⟨W0.heap.size, 0, none⟩) s.size (grownCap W0 s.size 0 5) (strZ s)) := Lib.hid ⟨hy.len, ⟨hy.cap, by omega⟩, hy.rng, fun h0 => by
    obtain ⟨b, o, e, _, hc⟩ := hy.cell h0
    injection e with e
    injection e with e1 e2
    subst e1 e2
    exact ⟨_, _, rfl, rfl, hc⟩⟩
  have HSZ : Hid (W0.heap.size < (Lib.bytesWorld W0 5 s).heap.size) := Lib.hid (by rw [Lib.bytesWorld_size]; omega)
  obtain ⟨c2, hc2⟩ : ∃ c2, grownCap W0 s.size 0 5 = c2 := ⟨_, rfl⟩
  have hcv2 := hcv W0
  rw [hc2] at hcv2 HY2
  obtain ⟨w2, hw2⟩ : ∃ w2, Lib.bytesWorld W0 5 s = w2 := ⟨_, rfl⟩
  rw [hw2] at hcv2 HN2 HB2 HY2 HSZ
  obtain ⟨r0, r1, r2, r3, r4, r5⟩ := zero_cells HN2.out
  clear hcv hy hc2 hw2 hs
  go_enter Tryd.func13, Tryd.ntmps13
  go_wp2_with fail
  refine bodyPost_ret (results_cell_row rfl _ _ w.heap.size 26 _ (0, 0) _ rfl (set5_row HN2.out) Tryd.underlying26 rfl (by kernel_rfl)) rfl ?_
  exact ⟨_, _, _, _, _, rfl, ObR.plain (by omega) (by omega) (HY2.out.keep (fun g hg => heap_set5 (by have := HS0.out; omega)) (fun g hg => ⟨by have := HS0.out; omega, by rw [size_set5, hg]; exact HSZ.out⟩)), below_set5 HB2.out (Nat.le_refl _)⟩
end

section
open Go.RowKit
set_option linter.unusedVariables false
set_option maxRecDepth 100000
/-- A row of objects, as a slice, in blocks of a kind. -/
def ObsV (w : World) (S : Nat → Prop) (l : Obs) (A : Option Addr) (c : Nat) : Prop := (l.len ≤ c ∧ c ≤ 9223372036854775807) ∧ (0 < l.len → ∃ g o, A = some ⟨g, o, none⟩ ∧ S g ∧ ObsR w S l g o)
theorem DiS.put3 {w wr : World} {base : Nat} {c0 c1 c2 c3 vD : Value} (h : DiS w wr base c0 c1 c2 c3 vD) (v : Value) : DiS w (wr.setCell ⟨w.heap.size + 1, 3, none⟩ v) base c0 c1 c2 v vD :=
  ⟨h.low.setCell (p := ⟨w.heap.size + 1, 3, none⟩) (Nat.le_succ _) v, (set_blk9 wr (w.heap.size + 1) 3 _ v (by omega)).trans h.res, heap_set wr (w.heap.size + 1) 3 v [c0, c1, c2, c3, vD] _ h.out, h.g1, by simpa [World.setCell] using h.g2⟩
set_option maxHeartbeats 8000000 in
theorem arrC (l : Obs) (Sl : Nat → Prop) (w : World) (AL : Option Addr) (cL : Nat) (hl : ObsV w Sl l AL cL) (hS : ∀ g, Sl g → g < w.heap.size) (hok : okL l) (hll : l.len ≤ 1000000) :
    Calls Tryd.prog 11 #[.slice AL l.len cL] w (CpP w (.mk 6 0 [] l .nil)) := by
  have hb1 := (Below.refl w.heap.size w).alloc (Nat.le_refl _) (.cells #[.int .i64 0, .int .i64 0, .slice none 0 0, .slice none 0 0, .slice none 0 0] 26)
  have hn1 := heap_alloc_new w (.cells #[.int .i64 0, .int .i64 0, .slice none 0 0, .slice none 0 0, .slice none 0 0] 26)
  obtain ⟨W0, hW0⟩ : ∃ W0, w.alloc (.cells #[.int .i64 0, .int .i64 0, .slice none 0 0, .slice none 0 0, .slice none 0 0] 26) = W0 := ⟨_, rfl⟩
  have hs0 : W0.heap.size = w.heap.size + 1 := by rw [← hW0]; simp
  rw [hW0] at hb1 hn1
  have hb2 := (Below.refl W0.heap.size W0).alloc (Nat.le_refl _) (.cells #[.int .i64 6, .int .i64 0, .slice none 0 0, .slice none 0 0, .slice none 0 0] 26)
  have hn2 := heap_alloc_new W0 (.cells #[.int .i64 6, .int .i64 0, .slice none 0 0, .slice none 0 0, .slice none 0 0] 26)
  obtain ⟨W1, hW1⟩ : ∃ W1, W0.alloc (.cells #[.int .i64 6, .int .i64 0, .slice none 0 0, .slice none 0 0, .slice none 0 0] 26) = W1 := ⟨_, rfl⟩
  have hs1 : W1.heap.size = w.heap.size + 2 := by rw [← hW1]; simp; omega
  rw [hW1] at hb2 hn2
  rw [hs0] at hn2
  have HDI : Hid (DiS w W1 (w.heap.size + 2) (.int .i64 6) (.int .i64 0) (.slice none 0 0) (.slice none 0 0) (.slice none 0 0)) := Lib.hid ⟨hb1.trans (hb2.mono (by omega)), (hb2.block _ (by omega)).trans hn1, hn2, Nat.le_refl _, by omega⟩
  obtain ⟨LL, hLL⟩ : ∃ LL, l.len = LL := ⟨_, rfl⟩
  rw [hLL] at hll ⊢
  have HL := Lib.hid hl
  have HLL := Lib.hid hLL
  have HS := Lib.hid hS
  have HOK := Lib.hid hok
  have HS0 := Lib.hid hs0
  have HWE := Lib.hid hW1
  clear hW1 hb1 hn1 hb2 hn2 hs0 hs1 hl hLL hS hok
  go_enter Tryd.func11, Tryd.ntmps11
  go_wp2_with fail
  rw [HWE.out, HS0.out]
  go_loopw [4] (fun iv wr => ∃ (i cV : Nat) (AV : Option Addr), i ≤ LL ∧ iv = .int .i64 i ∧ Hid (DiS w wr (w.heap.size + 2) (.int .i64 6) (.int .i64 0) (.slice none 0 0) (.slice AV i cV) (.slice none 0 0)) ∧ Hid (OwnO noneT wr (w.heap.size + 2) (.slice AV i cV) (l.takeN i))) (fun iv _ => LL - (intOf iv).toNat)
  case atStart => exact ⟨0, 0, none, Nat.zero_le _, rfl, HDI, Lib.hid (by rw [Obs.take_zero]; exact OwnO.nil _ _ _)⟩
  case round =>
    obtain ⟨i, cV, AV, hi, rfl, HDS, HOW⟩ := hrel
    have hww : Below w.heap.size w wr := HDS.out.low
    by_cases hlt : i < LL
    · have hgt := l.get_some i (by rw [HLL.out]; exact hlt)
      obtain ⟨y, hy⟩ := hgt
      obtain ⟨g, o, rfl, hg, hobs⟩ := HL.out.2 (by rw [HLL.out]; omega)
      obtain ⟨d0, d1, d2, d3, d4, k0, k1, k2, k3, k4, hyr⟩ := hobs.get l g o i y hy
      have hgw : g < w.heap.size := HS.out g hg
      have HEL : Hid (∀ W, DiS w W (w.heap.size + 2) (.int .i64 6) (.int .i64 0) (.slice none 0 0) (.slice AV i cV) (.slice none 0 0) → W.cell? ⟨w.heap.size + 1, 3, none⟩ = some (.slice AV i cV) ∧ W.cell? ⟨g, o + i * 5, none⟩ = some d0 ∧ W.cell? ⟨g, o + i * 5 + 1, none⟩ = some d1 ∧ W.cell? ⟨g, o + i * 5 + 2, none⟩ = some d2 ∧ W.cell? ⟨g, o + i * 5 + 3, none⟩ = some d3 ∧ W.cell? ⟨g, o + i * 5 + 4, none⟩ = some d4) := Lib.hid (fun W hW => by
        have e := fun j => World.cell?_of_block (a := ⟨g, j, none⟩) (hW.low.block g hgw)
        exact ⟨cell_of_row _ _ 3 _ _ (0, 0) hW.out, (e _).trans k0, (e _).trans k1, (e _).trans k2, (e _).trans k3, (e _).trans k4⟩)
      have hwd : Below w.heap.size w wr.drew := hww.drew
      have HI := Lib.hid (copyC _ y (Nat.le_refl _) (okL_get l i y HOK.out hy) Sl wr.drew d0 d1 d2 d3 d4 (ObR.keep (fun b hb => hwd.block b (HS.out b hb)) (fun _ h => h) y hyr) (fun b hb => Nat.lt_of_lt_of_le (HS.out b hb) hwd.size))
      have hti : (l.takeN i).len = i := Obs.take_len l i (by rw [HLL.out]; exact hi)
      have HTI := Lib.hid hti
      have HTS := Lib.hid (Obs.take_snoc l i y hy)
      have hli : (i : Int) < LL := by omega
      obtain ⟨m3, m4, m5, m6, m7, m8⟩ := HEL.out wr HDS.out
      obtain ⟨a3, a4, a5, a6, a7, a8⟩ := HEL.out wr.drew HDS.out.drew
      clear hy hobs hyr hti hg hgw k0 k1 k2 k3 k4 hww hwd
      go_upto_region 5 with fail
      refine wp_region_heldR (fun w' => w'.cell? ⟨w.heap.size + 1, 3, none⟩ = some (.slice AV i cV) ∧ w'.cell? ⟨g, o + i * 5, none⟩ = some d0 ∧ w'.cell? ⟨g, o + i * 5 + 1, none⟩ = some d1 ∧ w'.cell? ⟨g, o + i * 5 + 2, none⟩ = some d2 ∧ w'.cell? ⟨g, o + i * 5 + 3, none⟩ = some d3 ∧ w'.cell? ⟨g, o + i * 5 + 4, none⟩ = some d4) 10 (by kernel_rfl) ⟨a3, a4, a5, a6, a7, a8⟩ (fun hHeld => ?_)
      refine wpAnyR_take 0 rfl (by kernel_rfl) (by kernel_rfl) (by kernel_rfl) (by kernel_rfl) (fun _ _ _ h => h) (by rfl) (v := ?_) ?_ (by assumption) ?_
      rotate_left
      focus
        intro wS hSw
        (try dsimp only at hSw)
        go_simp
        try with_reducible rfl
      intro hHeld
      try simp only [Act.put, List.setIfInBounds_toArray, List.set_cons_zero, List.set_cons_succ]
      refine wpAnyR_take 1 rfl (by kernel_rfl) (by kernel_rfl) (by kernel_rfl) (by kernel_rfl) (fun _ _ _ h => h) (by rfl) (v := ?_) ?_ (by assumption) ?_
      rotate_left
      focus
        intro wS hSw
        (try dsimp only at hSw)
        go_simp
        try with_reducible rfl
      intro hHeld
      try simp only [Act.put, List.setIfInBounds_toArray, List.set_cons_zero, List.set_cons_succ]
      refine wpAnyR_take 2 rfl (by kernel_rfl) (by kernel_rfl) (by kernel_rfl) (by kernel_rfl) (fun _ _ _ h => h) (by rfl) (v := ?_) ?_ (by assumption) ?_
      rotate_left
      focus
        intro wS hSw
        (try dsimp only at hSw)
        go_simp
        try with_reducible rfl
      intro hHeld
      try simp only [Act.put, List.setIfInBounds_toArray, List.set_cons_zero, List.set_cons_succ]
      refine wpAnyR_take 3 rfl (by kernel_rfl) (by kernel_rfl) (by kernel_rfl) (by kernel_rfl) (fun _ _ _ h => h) (by rfl) (v := ?_) ?_ (by assumption) ?_
      rotate_left
      focus
        intro wS hSw
        (try dsimp only at hSw)
        go_simp
        try with_reducible rfl
      intro hHeld
      try simp only [Act.put, List.setIfInBounds_toArray, List.set_cons_zero, List.set_cons_succ]
      refine wpAnyR_take 4 rfl (by kernel_rfl) (by kernel_rfl) (by kernel_rfl) (by kernel_rfl) (fun _ _ _ h => h) (by rfl) (v := ?_) ?_ (by assumption) ?_
      rotate_left
      focus
        intro wS hSw
        (try dsimp only at hSw)
        go_simp
        try with_reducible rfl
      intro hHeld
      try simp only [Act.put, List.setIfInBounds_toArray, List.set_cons_zero, List.set_cons_succ]
      refine wpAnyR_take 5 rfl (by kernel_rfl) (by kernel_rfl) (by kernel_rfl) (by kernel_rfl) (fun _ _ _ h => h) (by rfl) (v := ?_) ?_ (by assumption) ?_
      rotate_left
      focus
        intro wS hSw
        (try dsimp only at hSw)
        go_simp
        try with_reducible rfl
      intro hHeld
      try simp only [Act.put, List.setIfInBounds_toArray, List.set_cons_zero, List.set_cons_succ]
      refine wpAnyR_step 6 rfl (by kernel_rfl) (fun K hK => ?_)
      go_simp
      go_at_call 18
      refine HI.out.mono ?_
      rintro r w2 ⟨e0, e1, e2, e3, e4, rfl, hy2, hb2⟩
      have HAP := Lib.hid (HOW.out.drew.lit hb2 y hy2 (by rw [HTI.out]; omega) HDS.out.drew.g2 (fun _ h => h.elim))
      have HD2 := Lib.hid (HDS.out.drew.step (hb2.mono HDS.out.drew.g2))
      obtain ⟨p3, p4, p5, p6, p7, p8⟩ := HEL.out w2 HD2.out
      clear hy2 hb2
      go_wp2_with fail
      refine hK.out _ _ (⟨p3, p4, p5, p6, p7, p8⟩) (fun hHeld => ?_)
      clear hK K
      try simp only [Act.put, List.setIfInBounds_toArray, List.set_cons_zero, List.set_cons_succ]
      refine wpAnyR_step 7 rfl (by kernel_rfl) (fun K hK => ?_)
      go_simp
      refine hK.out _ _ (by go_keep) (fun hHeld => ?_)
      clear hK K
      try simp only [Act.put, List.setIfInBounds_toArray, List.set_cons_zero, List.set_cons_succ]
      refine wpAnyR_step 8 rfl (by kernel_rfl) (fun K hK => ?_)
      obtain ⟨A6, c6, w3, hrun, ho6, hb6⟩ := HAP.out
      rw [HTI.out] at hrun ho6
      refine step_append_run9 rfl (.tmp 13) (.tmp 19) 23 rfl (.slice AV i cV) (.slice (some ⟨w2.heap.size, 0, none⟩) 1 1) rfl rfl hrun ?_
      have HD3 := Lib.hid (HD2.out.step hb6)
      have fz : w3.frozen? ⟨w.heap.size + 1, 3, none⟩ = false := by (have := HD3.out.out; simp [World.frozen?, this])
      obtain ⟨r3, r4, r5, r6, r7, r8⟩ := HEL.out w3 HD3.out
      have HD4 := Lib.hid (HD3.out.put3 (.slice A6 (i + 1) c6))
      have HOW4 := Lib.hid (OwnO.keepB ho6 ((Only.refl (w.heap.size + 1) w3).set_ 3 (.slice A6 (i + 1) c6)) (by omega) (fun h => h))
      rw [← HTS.out] at HOW4
      clear hrun ho6 hb6
      refine hK.out _ _ (⟨r3, r4, r5, r6, r7, r8⟩) (fun hHeld => ?_)
      clear hK K
      try simp only [Act.put, List.setIfInBounds_toArray, List.set_cons_zero, List.set_cons_succ]
      refine wpAnyR_take 9 rfl (by kernel_rfl) (by kernel_rfl) (by kernel_rfl) (by kernel_rfl) (fun _ _ _ h => h) (by rfl) (v := ?_) ?_ (by assumption) ?_
      rotate_left
      focus
        intro wS hSw
        (try dsimp only at hSw)
        go_simp
        try with_reducible rfl
      intro hHeld
      try simp only [Act.put, List.setIfInBounds_toArray, List.set_cons_zero, List.set_cons_succ]
      refine wpAnyR_last rfl (by kernel_rfl) (by kernel_rfl) (fun K hK => ?_)
      go_simp
      refine hK.out _ _ ?_
      clear hK K
      refine NoPanic.normal ?_
      go_wp2_with fail
      go_roundw
      case rel => exact ⟨i + 1, c6, A6, by omega, by go_num, HD4, HOW4⟩
      case measure => simp [intOf]; omega
    · obtain rfl : LL = i := by omega
      have hOW := HOW.out
      rw [show l.takeN LL = l by rw [← HLL.out]; exact Obs.take_all l] at hOW
      obtain ⟨AX, cX, eX, hcX, hxX⟩ := hOW.shape
      obtain ⟨rfl, hLX, rfl⟩ : AV = AX ∧ LL = l.len ∧ cV = cX := by
        injection eX with e1 e2 e3
        exact ⟨e1, e2, e3⟩
      have HCX := Lib.hid hcX
      have HXX := Lib.hid hxX
      have g0 : wr.cell? ⟨w.heap.size + 1, 0, none⟩ = some (.int .i64 6) := cell_of_row _ _ 0 _ _ (0, 0) HDS.out.out
      have g1 : wr.cell? ⟨w.heap.size + 1, 1, none⟩ = some (.int .i64 0) := cell_of_row _ _ 1 _ _ (0, 0) HDS.out.out
      have g2 : wr.cell? ⟨w.heap.size + 1, 2, none⟩ = some (.slice none 0 0) := cell_of_row _ _ 2 _ _ (0, 0) HDS.out.out
      have g3 : wr.cell? ⟨w.heap.size + 1, 3, none⟩ = some (.slice AV LL cV) := cell_of_row _ _ 3 _ _ (0, 0) HDS.out.out
      have g4 : wr.cell? ⟨w.heap.size + 1, 4, none⟩ = some (.slice none 0 0) := cell_of_row _ _ 4 _ _ (0, 0) HDS.out.out
      obtain ⟨q0, q1, q2, q3, q4, q5⟩ := zero_cells HDS.out.res
      clear hOW eX hcX hxX hLX hlt hww
      go_wp2_with fail
      refine bodyPost_ret (results_cell_row rfl _ _ w.heap.size 26 _ (0, 0) _ rfl (set5_row HDS.out.res) Tryd.underlying26 rfl (by kernel_rfl)) rfl ?_
      refine ⟨_, _, _, _, _, rfl, ?_, below_set5 HDS.out.low (Nat.le_refl _)⟩
      unfold ObR
      refine ⟨rfl, rfl, by omega, by omega, ⟨none, 0, 0, rfl, bytS_nil _ _⟩, ⟨AV, cV, by rw [HLL.out], HCX.out, fun h0 => ?_⟩, ⟨none, 0, rfl, by simp [Ens.len], fun h => absurd h (by simp [Ens.len])⟩⟩
      obtain ⟨g, o, e, hg, hx⟩ := HXX.out h0
      have key0 : ∀ b, (noneT b ∨ w.heap.size + 2 ≤ b) ∧ b < wr.heap.size → w.heap.size + 2 ≤ b := fun b hb => by
        rcases hb.1 with h | h
        · exact h.elim
        · exact h
      have key : ∀ b, (noneT b ∨ w.heap.size + 2 ≤ b) ∧ b < wr.heap.size → w.heap.size ≤ b ∧ b < (((((wr.setCell ⟨w.heap.size, 0, none⟩ (.int .i64 6)).setCell ⟨w.heap.size, 1, none⟩ (.int .i64 0)).setCell ⟨w.heap.size, 2, none⟩ (.slice none 0 0)).setCell ⟨w.heap.size, 3, none⟩ (.slice AV LL cV)).setCell ⟨w.heap.size, 4, none⟩ (.slice none 0 0)).heap.size := fun b hb => by
        rw [size_set5]
        exact ⟨by have := key0 b hb; omega, hb.2⟩
      exact ⟨g, o, e, key g hg, ObsR.keep (fun b hb => heap_set5 (by have := key0 b hb; omega)) key l g o (key g hg) hg hx⟩
end

section
open Go.RowKit
set_option linter.unusedVariables false
set_option maxRecDepth 100000
def badF (k : Int) (lb ll ld : Nat) : Bool := decide ((0 < ll ∧ k ≠ 6) ∨ (0 < ld ∧ k ≠ 7 ∧ k ≠ 8) ∨ (0 < lb ∧ k ≠ 4 ∧ k ≠ 5 ∧ k ≠ 8))
def inZ (n : Int) : Bool := decide (-214748364799999 ≤ n ∧ n ≤ 214748364799999)
def nameS (s : ByteArray) : Bool := nameZ (strZ s)
mutual
/-- May it be, with so many in one another? -/
def mayO : Ob → Int → Bool
  | .mk k n b l d, dp =>
    if badF k b.length l.len d.len = true then false
    else if k = 1 then decide (n = 0 ∨ n = 1)
    else if k = 2 then decide (-2147483647 ≤ n ∧ n ≤ 2147483647)
    else if k = 3 then inZ n
    else if k = 9 then decide (1 ≤ n ∧ n ≤ 8388607)
    else if n ≠ 0 then false
    else if k = 0 then true
    else if k = 4 then decide (b.length ≤ 32767)
    else if k = 5 then nameZ b
    else if k = 6 then (mayL l dp && decide (1 ≤ dp))
    else if k = 7 ∨ k = 8 then (if dp < 1 ∨ 16777216 < b.length then false else mayE d none dp)
    else false
def mayL : Obs → Int → Bool
  | .nil, _ => true
  | .cons x xs, dp => if x.kind = 8 ∨ dp < 1 then false else if mayO x (dp - 1) = true then mayL xs dp else false
def mayE : Ens → Option ByteArray → Int → Bool
  | .nil, _, _ => true
  | .cons s x xs, pv, dp => if nameS s = true ∧ (∀ p, pv = some p → leS s p = false) ∧ x.kind ≠ 8 ∧ x.kind ≠ 0 ∧ mayO x (dp - 1) = true then mayE xs (some s) dp else false
end
end
end Go.Proofs.YtliieeagbpmcgaaDoor
