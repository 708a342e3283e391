/- Chapter 10: the document's own makers: Str, Int, Ref, Arr, Stream. -/
import Derived.Test.YtkloipjkialakaaDi10
import Derived.Lib.ConvBytes
import Derived.Laws.AppendOwn
namespace Go.Proofs.Ytkloipjkialakaa
open Go.RowKit
set_option linter.unusedVariables false
set_option maxRecDepth 100000

theorem bytS_nil (w : World) (S : Nat → Prop) : BytS w S none 0 0 [] := ⟨rfl, by omega, (fun _ h => by cases h), fun h => absurd h (by omega)⟩
theorem ObR.plain {w : World} {S : Nat → Prop} {k n : Int} {A : Option Addr} {m c : Nat} {b : List Int} (hk : -9223372036854775808 ≤ k ∧ k ≤ 9223372036854775807) (hn : -9223372036854775808 ≤ n ∧ n ≤ 9223372036854775807) (hb : BytS w S A m c b) :
    ObR w S (.mk k n b .nil .nil) (.int .i64 k) (.int .i64 n) (.slice A m c) (.slice none 0 0) (.slice none 0 0) := by
  unfold ObR
  exact ⟨rfl, rfl, hk, hn, ⟨A, m, c, rfl, hb⟩, ⟨none, 0, rfl, by simp [Obs.len], fun h => absurd h (by simp [Obs.len])⟩, ⟨none, 0, rfl, by simp [Ens.len], fun h => absurd h (by simp [Ens.len])⟩⟩
theorem strC (A : Option Addr) (m c : Nat) (b : List Int) (w : World) (hb : Byt w w.heap.size A m c b) (hm : m ≤ 100000000) : Calls Try.prog 34 #[.slice A m c] w (CpP w (.mk 4 0 b .nil .nil)) := by
  have HCP := Lib.hid (fun W (hW : Below w.heap.size w W) => refCopy A m c b W ((hb.below hW (Nat.le_refl _)).more hW.size) hm)
  clear hb
  have HB := Lib.hid ((Below.refl w.heap.size w).alloc (Nat.le_refl _) (.cells #[.int .i64 0, .int .i64 0, .slice none 0 0, .slice none 0 0, .slice none 0 0] 27))
  have HN := Lib.hid (heap_alloc_new w (.cells #[.int .i64 0, .int .i64 0, .slice none 0 0, .slice none 0 0, .slice none 0 0] 27))
  obtain ⟨W0, hW0⟩ : ∃ W0, w.alloc (.cells #[.int .i64 0, .int .i64 0, .slice none 0 0, .slice none 0 0, .slice none 0 0] 27) = W0 := ⟨_, rfl⟩
  have hs0 : W0.heap.size = w.heap.size + 1 := by rw [← hW0]; simp
  rw [hW0] at HB HN
  have HS0 := Lib.hid hs0
  obtain ⟨q0, q1, q2, q3, q4, q5⟩ := zero_cells HN.out
  clear hs0
  go_enter Try.func34, Try.ntmps34
  go_wp2_with (go_at_call 56; refine (HCP.out _ HB.out).mono ?_; (rintro r w2 ⟨v, rfl, hm2, hb2⟩); have HB2 := Lib.hid (HB.out.trans (hb2.mono HB.out.size)); have HN2 := Lib.hid (blk_keep9 hb2 HN.out); obtain ⟨A2, c2, rfl, hy2⟩ := hm2.bytS; have HY2 := Lib.hid hy2; obtain ⟨r0, r1, r2, r3, r4, r5⟩ := zero_cells HN2.out; clear hb2 hm2 hy2)
  refine bodyPost_ret (results_cell_row rfl _ _ w.heap.size 27 _ (0, 0) _ rfl (set5_row HN2.out) Try.underlying27 rfl (by kernel_rfl)) rfl ?_
  exact ⟨_, _, _, _, _, rfl, ObR.plain (by omega) (by omega) (HY2.out.keep (fun g hg => heap_set5 (by have := hg.1; have := HS0.out; omega)) (fun g hg => ⟨by have := hg.1; have := HS0.out; omega, by rw [size_set5]; exact hg.2⟩)), below_set5 HB2.out (Nat.le_refl _)⟩
/-- A text's bytes as numbers. -/
def strZ (s : ByteArray) : List Int := s.data.toList.map fun b => (b.toNat : Int)
theorem strZ_bytes (s : ByteArray) : Lib.bytesOf (strZ s) = s.data.toList := by
  unfold Lib.bytesOf strZ
  rw [List.map_map]
  conv => rhs; rw [← List.map_id s.data.toList]
  apply List.map_congr_left
  intro b _
  simp

theorem strZ_byt (w : World) (s : ByteArray) : Byt (Lib.bytesWorld w 5 s) (w.heap.size + 1) (some ⟨w.heap.size, 0, none⟩) s.size (grownCap w s.size 0 5) (strZ s) := by
  refine ⟨by simp [strZ], grownCap_ge w s.size 0 5, fun z hz => ?_, fun _ => ⟨w.heap.size, 0, rfl, by omega, fun i hi => ?_⟩⟩
  · obtain ⟨b, _, rfl⟩ := List.mem_map.1 hz
    have := UInt8.toNat_lt b
    omega
  · rw [Nat.zero_add, Lib.bytesWorld_cell w 5 s i hi]
    simp [strZ, List.getD, hi]

theorem strZ_below (w : World) (s : ByteArray) : Below w.heap.size w (Lib.bytesWorld w 5 s) :=
  ⟨rfl, rfl, rfl, by rw [Lib.bytesWorld_size]; omega, fun k hk => Lib.bytesWorld_at_old w 5 s k hk⟩
theorem nameOC (s : ByteArray) (w : World) (hs : s.size ≤ 1000000) : Calls Try.prog 35 #[.string s] w (CpP w (.mk 5 0 (strZ s) .nil .nil)) := by
  have HB := Lib.hid ((Below.refl w.heap.size w).alloc (Nat.le_refl _) (.cells #[.int .i64 0, .int .i64 0, .slice none 0 0, .slice none 0 0, .slice none 0 0] 27))
  have HN := Lib.hid (heap_alloc_new w (.cells #[.int .i64 0, .int .i64 0, .slice none 0 0, .slice none 0 0, .slice none 0 0] 27))
  obtain ⟨W0, hW0⟩ : ∃ W0, w.alloc (.cells #[.int .i64 0, .int .i64 0, .slice none 0 0, .slice none 0 0, .slice none 0 0] 27) = W0 := ⟨_, rfl⟩
  have hs0 : W0.heap.size = w.heap.size + 1 := by rw [← hW0]; simp
  rw [hW0] at HB HN
  have HS0 := Lib.hid hs0
  obtain ⟨q0, q1, q2, q3, q4, q5⟩ := zero_cells HN.out
  clear hs0
  have hcv : ∀ W, (convert 9 23 (.string s)).run Try.prog W = .ok (.slice (some ⟨W.heap.size, 0, none⟩) s.size (grownCap W s.size 0 5)) (Lib.bytesWorld W 5 s) := fun W => Lib.run_convert_string_bytes W 9 23 5 s Try.underlying9 Try.underlying23 Try.underlying5
  have HN2 : Hid ((Lib.bytesWorld W0 5 s).heap[w.heap.size]? = _) := Lib.hid ((Lib.bytesWorld_at_old W0 5 s w.heap.size (by have := HS0.out; omega)).trans HN.out)
  have HB2 := Lib.hid (HB.out.trans ((strZ_below W0 s).mono HB.out.size))
  have hy := strZ_byt W0 s
  have HY2 : Hid (BytS (Lib.bytesWorld W0 5 s) (fun g => g = W0.heap.size) (some ⟨W0.heap.size, 0, none⟩) s.size (grownCap W0 s.size 0 5) (strZ s)) := Lib.hid ⟨hy.len, ⟨hy.cap, by have := grownCap_le_maxLen W0 s.size 0 5 (by simp only [maxLen]; omega); simpa [maxLen] using this⟩, hy.rng, fun h0 => by
    obtain ⟨b, o, e, _, hc⟩ := hy.cell h0
    injection e with e
    injection e with e1 e2
    subst e1 e2
    exact ⟨_, _, rfl, rfl, hc⟩⟩
  have HSZ : Hid (W0.heap.size < (Lib.bytesWorld W0 5 s).heap.size) := Lib.hid (by rw [Lib.bytesWorld_size]; omega)
  obtain ⟨c2, hc2⟩ : ∃ c2, grownCap W0 s.size 0 5 = c2 := ⟨_, rfl⟩
  have hcv2 := hcv W0
  rw [hc2] at hcv2 HY2
  obtain ⟨w2, hw2⟩ : ∃ w2, Lib.bytesWorld W0 5 s = w2 := ⟨_, rfl⟩
  rw [hw2] at hcv2 HN2 HB2 HY2 HSZ
  obtain ⟨r0, r1, r2, r3, r4, r5⟩ := zero_cells HN2.out
  clear hcv hy hc2 hw2 hs
  go_enter Try.func35, Try.ntmps35
  go_wp2_with fail
  refine bodyPost_ret (results_cell_row rfl _ _ w.heap.size 27 _ (0, 0) _ rfl (set5_row HN2.out) Try.underlying27 rfl (by kernel_rfl)) rfl ?_
  exact ⟨_, _, _, _, _, rfl, ObR.plain (by omega) (by omega) (HY2.out.keep (fun g hg => heap_set5 (by have := HS0.out; omega)) (fun g hg => ⟨by have := HS0.out; omega, by rw [size_set5, hg]; exact HSZ.out⟩)), below_set5 HB2.out (Nat.le_refl _)⟩
set_option maxHeartbeats 2000000 in
theorem streamC (A : Option Addr) (m c : Nat) (b : List Int) (l : Ens) (Sl : Nat → Prop) (w : World) (AL : Option Addr) (cL : Nat) (hb : Byt w w.heap.size A m c b) (hm : m ≤ 100000000) (hl : EnsV w Sl l AL cL) (hS : ∀ g, Sl g → g < w.heap.size) (hok : okE l) (hll : l.len ≤ 1000000) :
    Calls Try.prog 32 #[.slice A m c, .slice AL l.len cL] w (CpP w (.mk 8 0 b .nil (dictF l .nil))) := by
  have HCP := Lib.hid (fun W (hW : Below w.heap.size w W) => refCopy A m c b W ((hb.below hW (Nat.le_refl _)).more hW.size) hm)
  have HDC := Lib.hid (fun W (hW : Below w.heap.size w W) => dictC l Sl W AL cL (hl.keep (fun g hg => hW.block g (hS g hg)) (fun _ h => h)) (fun g hg => Nat.lt_of_lt_of_le (hS g hg) hW.size) hok hll)
  obtain ⟨R, hR⟩ : ∃ R, dictF l .nil = R := ⟨_, rfl⟩
  rw [hR] at HDC ⊢
  obtain ⟨LL, hLL⟩ : ∃ LL, l.len = LL := ⟨_, rfl⟩
  rw [hLL] at HDC ⊢
  clear hb hl hS hok hll hR hLL
  have HB := Lib.hid ((Below.refl w.heap.size w).alloc (Nat.le_refl _) (.cells #[.int .i64 0, .int .i64 0, .slice none 0 0, .slice none 0 0, .slice none 0 0] 27))
  have HN := Lib.hid (heap_alloc_new w (.cells #[.int .i64 0, .int .i64 0, .slice none 0 0, .slice none 0 0, .slice none 0 0] 27))
  obtain ⟨W0, hW0⟩ : ∃ W0, w.alloc (.cells #[.int .i64 0, .int .i64 0, .slice none 0 0, .slice none 0 0, .slice none 0 0] 27) = W0 := ⟨_, rfl⟩
  have hs0 : W0.heap.size = w.heap.size + 1 := by rw [← hW0]; simp
  rw [hW0] at HB HN
  have HS0 := Lib.hid hs0
  obtain ⟨q0, q1, q2, q3, q4, q5⟩ := zero_cells HN.out
  clear hs0
  go_enter Try.func32, Try.ntmps32
  go_upto_region 4 with (first
    | (go_at_call 31; refine (HDC.out _ HB.out).mono ?_; (rintro r w2 ⟨d0, d1, d2, d3, d4, rfl, hx2, hb2⟩); unfold ObR at hx2; obtain ⟨rfl, rfl, _, _, ⟨A2, m2, c2, rfl, hy2⟩, ⟨A3, c3, rfl, hc3, _⟩, ⟨A4, c4, rfl, hc4, hx4⟩⟩ := hx2; have HB2 := Lib.hid (HB.out.trans (hb2.mono HB.out.size)); have HN2 := Lib.hid (blk_keep9 hb2 HN.out); have HX4 := Lib.hid hx4; have HC4 := Lib.hid hc4; have HC3 := Lib.hid hc3; have HSZ := Lib.hid hb2.size; clear hb2 hy2 hx4 hc4 hc3)
    | (go_at_call 56; refine (HCP.out _ (HB2.out.alloc HB2.out.size _)).mono ?_; (rintro r w4 ⟨v, rfl, hm4, hb4⟩); have hsp := alloc_split9 hb4; have HB4 := Lib.hid hsp.1; have HO4 := Lib.hid hsp.2; obtain ⟨A5, c5, rfl, hy5⟩ := hm4.bytS; rw [World.size_alloc] at hy5; have HY5 := Lib.hid hy5; have s2 : w4.cell? ⟨w2.heap.size, 2, none⟩ = some (.slice A2 m2 c2) := cell_of_row _ _ 2 _ _ (0, 0) hsp.2; have fz : w4.frozen? ⟨w2.heap.size, 2, none⟩ = false := (by have := hsp.2; simp [World.frozen?, this]); clear hb4 hm4 hy5 hsp))
  have hlt : w.heap.size < w2.heap.size := by have := HS0.out; have := HSZ.out; omega
  have hO5 := heap_set w4 w2.heap.size 2 (.slice A5 m c5) [.int .i64 8, .int .i64 0, .slice A2 m2 c2, .slice A3 (Obs.nil).len c3, .slice A4 R.len c4] _ HO4.out
  have hN5 := (set_blk9 w4 w2.heap.size 2 w.heap.size (.slice A5 m c5) (by omega)).trans ((HB4.out.block w.heap.size hlt).trans HN2.out)
  have hB5 := (HB2.out.trans (HB4.out.mono (Nat.le_of_lt hlt))).setCell (p := ⟨w2.heap.size, 2, none⟩) (Nat.le_of_lt hlt) (.slice A5 m c5)
  have hK5 : ∀ g, g ≠ w2.heap.size → (w4.setCell ⟨w2.heap.size, 2, none⟩ (.slice A5 m c5)).heap[g]? = w4.heap[g]? := fun g hg => set_blk9 w4 w2.heap.size 2 g _ hg
  have hz5 : (w4.setCell ⟨w2.heap.size, 2, none⟩ (.slice A5 m c5)).heap.size = w4.heap.size := by simp [World.setCell]
  obtain ⟨W5, hW5⟩ : ∃ W5, w4.setCell ⟨w2.heap.size, 2, none⟩ (.slice A5 m c5) = W5 := ⟨_, rfl⟩
  rw [hW5] at hO5 hN5 hB5 hK5 hz5 ⊢
  have t0 : W5.cell? ⟨w2.heap.size, 0, none⟩ = some (.int .i64 8) := cell_of_row _ _ 0 _ _ (0, 0) hO5
  have t1 : W5.cell? ⟨w2.heap.size, 1, none⟩ = some (.int .i64 0) := cell_of_row _ _ 1 _ _ (0, 0) hO5
  have t2 : W5.cell? ⟨w2.heap.size, 2, none⟩ = some (.slice A5 m c5) := cell_of_row _ _ 2 _ _ (0, 0) hO5
  have t3 : W5.cell? ⟨w2.heap.size, 3, none⟩ = some (.slice A3 (Obs.nil).len c3) := cell_of_row _ _ 3 _ _ (0, 0) hO5
  have t4 : W5.cell? ⟨w2.heap.size, 4, none⟩ = some (.slice A4 R.len c4) := cell_of_row _ _ 4 _ _ (0, 0) hO5
  obtain ⟨r0, r1, r2, r3, r4, r5⟩ := zero_cells hN5
  have HN5 := Lib.hid hN5
  have HB5 := Lib.hid hB5
  have HK5 := Lib.hid hK5
  have HZ5 := Lib.hid hz5
  have HLT := Lib.hid hlt
  clear hN5 hB5 hK5 hO5 hW5 hz5 s2 fz hlt
  go_wp2_with fail
  refine bodyPost_ret (results_cell_row rfl _ _ w.heap.size 27 _ (0, 0) _ rfl (set5_row HN5.out) Try.underlying27 rfl (by kernel_rfl)) rfl ?_
  refine ⟨_, _, _, _, _, rfl, ?_, below_set5 HB5.out (Nat.le_refl _)⟩
  have hlt := HLT.out
  have hs0 := HS0.out
  have hz5 := HZ5.out
  unfold ObR
  refine ⟨rfl, rfl, by omega, by omega, ⟨A5, m, c5, rfl, HY5.out.keep (fun g hg => (heap_set5 (by have := hg.1; omega)).trans (HK5.out g (by have := hg.1; omega))) (fun g hg => ⟨by have := hg.1; omega, by rw [size_set5, hz5]; exact hg.2⟩)⟩, ⟨A3, c3, rfl, HC3.out, fun h => absurd h (by simp [Obs.len])⟩, ⟨A4, c4, rfl, HC4.out, fun h0 => ?_⟩⟩
  obtain ⟨g, o, e, hg, hx⟩ := HX4.out h0
  have hb24 := HB4.out.size
  have key : ∀ x, W0.heap.size ≤ x ∧ x < w2.heap.size → w.heap.size ≤ x ∧ x < (((((W5.setCell ⟨w.heap.size, 0, none⟩ (.int .i64 8)).setCell ⟨w.heap.size, 1, none⟩ (.int .i64 0)).setCell ⟨w.heap.size, 2, none⟩ (.slice A5 m c5)).setCell ⟨w.heap.size, 3, none⟩ (.slice A3 (Obs.nil).len c3)).setCell ⟨w.heap.size, 4, none⟩ (.slice A4 R.len c4)).heap.size := fun x hx => by
    rw [size_set5, hz5]
    exact ⟨by have := hx.1; omega, by have := hx.2; omega⟩
  exact ⟨g, o, e, key g hg, EnsR.keep (fun x hx => (heap_set5 (by have := hx.1; omega)).trans ((HK5.out x (by have := hx.2; omega)).trans (HB4.out.block x hx.2))) key R g o (key g hg) hg hx⟩
end Go.Proofs.Ytkloipjkialakaa
