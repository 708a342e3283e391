/- Chapter 10: the project's makers of objects that hold others. -/
import Derived.Test.YtkloipjkialakaaPn10
namespace Go.Proofs.Ytkloipjkialakaa
open Go.RowKit Go.Sort
set_option linter.unusedVariables false
set_option maxRecDepth 100000

theorem pNameC (s : ByteArray) (w : World) (hs : s.size ≤ 1000000) : Calls Try.prog 19 #[.string s] w (CpP w (.mk 5 0 (strZ s) .nil .nil)) := by
  have HB := Lib.hid ((Below.refl w.heap.size w).alloc (Nat.le_refl _) (.cells #[.int .i64 0, .int .i64 0, .slice none 0 0, .slice none 0 0, .slice none 0 0] 27))
  have HN := Lib.hid (heap_alloc_new w (.cells #[.int .i64 0, .int .i64 0, .slice none 0 0, .slice none 0 0, .slice none 0 0] 27))
  obtain ⟨W0, hW0⟩ : ∃ W0, w.alloc (.cells #[.int .i64 0, .int .i64 0, .slice none 0 0, .slice none 0 0, .slice none 0 0] 27) = W0 := ⟨_, rfl⟩
  have hs0 : W0.heap.size = w.heap.size + 1 := by rw [← hW0]; simp
  rw [hW0] at HB HN
  have HS0 := Lib.hid hs0
  have HW0 := Lib.hid hW0
  clear hs0 hW0
  have hcv : ∀ W, (convert 9 23 (.string s)).run Try.prog W = .ok (.slice (some ⟨W.heap.size, 0, none⟩) s.size (grownCap W s.size 0 5)) (Lib.bytesWorld W 5 s) := fun W => Lib.run_convert_string_bytes W 9 23 5 s Try.underlying9 Try.underlying23 Try.underlying5
  have hlz : (strZ s).length = s.size := by simp [strZ]
  have hby := strZ_byt W0 s
  have hcap := grownCap_le_maxLen W0 s.size 0 5 (by simp only [maxLen]; omega)
  have hb5 := strZ_below W0 s
  obtain ⟨cc, hcc⟩ : ∃ cc, grownCap W0 s.size 0 5 = cc := ⟨_, rfl⟩
  have hcv0 := hcv W0
  rw [hcc] at hby hcv0 hcap
  obtain ⟨W5, hW5⟩ : ∃ W5, Lib.bytesWorld W0 5 s = W5 := ⟨_, rfl⟩
  rw [hW5] at hby hcv0 hb5
  have hlt : W0.heap.size + 1 ≤ W5.heap.size := by rw [← hW5, Lib.bytesWorld_size]; omega
  have HNX := Lib.hid (blk_keep9 hb5 HN.out)
  have HBX := Lib.hid (HB.out.trans (hb5.mono HB.out.size))
  have HZ3 : Hid (W0.heap.size ≤ W5.heap.size) := Lib.hid (by omega)
  have hbs : BytS W5 (oldT W5) (some ⟨W0.heap.size, 0, none⟩) (strZ s).length cc (strZ s) := ⟨rfl, ⟨by have := hby.cap; omega, by simpa [maxLen] using hcap⟩, hby.rng, fun h0 => by
    obtain ⟨b, o, e, hl, hc⟩ := hby.cell (by omega)
    exact ⟨b, o, e, by show b < W5.heap.size; omega, fun i hi => hc i (by omega)⟩⟩
  have HCP := Lib.hid (copyOld (w := W5) 1 (ObR.bytes (k := 5) (by omega) hbs) (by unfold wdO; exact ⟨by omega, by simp [Obs.len, Ens.len], by unfold wdL; trivial, by unfold wdE; trivial⟩) (by simp [htO, htL, htE]))
  rw [hlz] at HCP
  clear hby hb5 hW5 hlt hbs hcap hcv hlz hcc
  go_enter Try.func19, Try.ntmps19
  go_upto_region 1 with fail
  rw [HW0.out]
  go_wp2_with (go_at_call 22; (with_reducible refine HCP.out.mono ?_); (rintro r w3 ⟨d0, d1, d2, d3, d4, rfl, hx3, hb3⟩); (obtain ⟨k9, n9, A29, m29, c29, A39, m39, c39, A49, m49, c49, rfl, rfl, rfl, rfl, rfl⟩ := hx3.form); have HX3 := Lib.hid hx3; have HN3 := Lib.hid (blk_keep9 hb3 HNX.out); have HB3 := Lib.hid (HBX.out.trans (hb3.mono HBX.out.size)); (obtain ⟨r0, r1, r2, r3, r4, r5⟩ := zero_cells HN3.out); clear hx3 hb3 HCP)
  refine bodyPost_ret (results_cell_row rfl _ _ w.heap.size 27 _ (0, 0) _ rfl (set5_row HN3.out) Try.underlying27 rfl (by kernel_rfl)) rfl ?_
  exact ⟨_, _, _, _, _, rfl, ObR.keep (fun g hg => heap_set5 (by have := hg.1; have := HS0.out; have := HZ3.out; omega)) (fun g hg => ⟨by have := hg.1; have := HS0.out; have := HZ3.out; omega, by rw [size_set5]; exact hg.2⟩) _ HX3.out, below_set5 HB3.out (Nat.le_refl _)⟩
set_option maxHeartbeats 1000000 in
theorem pArrC (W : Nat) (l : Obs) (Sl : Nat → Prop) (w : World) (A : Option Addr) (c : Nat) (hl : ObsV w Sl l A c) (hS : ∀ g, Sl g → g < w.heap.size) (hw : wdL W l) (hll : l.len ≤ W) (hW : W * (1 + htL l) ≤ 1000000000) : Calls Try.prog 10 #[.slice A l.len c] w (CpP w (.mk 6 0 [] l .nil)) := by
  have HB := Lib.hid ((Below.refl w.heap.size w).alloc (Nat.le_refl _) (.cells #[.int .i64 0, .int .i64 0, .slice none 0 0, .slice none 0 0, .slice none 0 0] 27))
  have HN := Lib.hid (heap_alloc_new w (.cells #[.int .i64 0, .int .i64 0, .slice none 0 0, .slice none 0 0, .slice none 0 0] 27))
  obtain ⟨W0, hW0⟩ : ∃ W0, w.alloc (.cells #[.int .i64 0, .int .i64 0, .slice none 0 0, .slice none 0 0, .slice none 0 0] 27) = W0 := ⟨_, rfl⟩
  have hs0 : W0.heap.size = w.heap.size + 1 := by rw [← hW0]; simp
  rw [hW0] at HB HN
  have HS0 := Lib.hid hs0
  have HW0 := Lib.hid hW0
  clear hs0 hW0
  have HNX := Lib.hid HN.out
  have HBX := Lib.hid HB.out
  have HZ3 : Hid (W0.heap.size ≤ W0.heap.size) := Lib.hid (Nat.le_refl _)
  have hx : ObR W0 (oldT W0) (.mk 6 0 [] l .nil) (.int .i64 6) (.int .i64 0) (.slice none 0 0) (.slice A l.len c) (.slice none 0 0) := by
    have hv := hl.keep (w' := W0) (S' := oldT W0) (fun g hg => HB.out.block g (hS g hg)) (fun g hg => show g < W0.heap.size by have := hS g hg; have := HB.out.size; omega)
    unfold ObR
    exact ⟨rfl, rfl, by omega, by omega, ⟨none, 0, 0, rfl, bytS_nil _ _⟩, ⟨A, c, rfl, hv.1, hv.2⟩, ⟨none, 0, rfl, by simp [Ens.len], fun h => by simp [Ens.len] at h⟩⟩
  have HCP := Lib.hid (copyOld (w := W0) W hx (by unfold wdO; exact ⟨by simp, by simp [Ens.len]; exact hll, hw, by unfold wdE; trivial⟩) (by rw [htO, htE]; simpa using hW))
  clear hl hS hx hw hW
  go_enter Try.func10, Try.ntmps10
  go_upto_region 1 with fail
  rw [HW0.out]
  go_wp2_with (go_at_call 22; (with_reducible refine HCP.out.mono ?_); (rintro r w3 ⟨d0, d1, d2, d3, d4, rfl, hx3, hb3⟩); (obtain ⟨k9, n9, A29, m29, c29, A39, m39, c39, A49, m49, c49, rfl, rfl, rfl, rfl, rfl⟩ := hx3.form); have HX3 := Lib.hid hx3; have HN3 := Lib.hid (blk_keep9 hb3 HNX.out); have HB3 := Lib.hid (HBX.out.trans (hb3.mono HBX.out.size)); (obtain ⟨r0, r1, r2, r3, r4, r5⟩ := zero_cells HN3.out); clear hx3 hb3 HCP)
  refine bodyPost_ret (results_cell_row rfl _ _ w.heap.size 27 _ (0, 0) _ rfl (set5_row HN3.out) Try.underlying27 rfl (by kernel_rfl)) rfl ?_
  exact ⟨_, _, _, _, _, rfl, ObR.keep (fun g hg => heap_set5 (by have := hg.1; have := HS0.out; have := HZ3.out; omega)) (fun g hg => ⟨by have := hg.1; have := HS0.out; have := HZ3.out; omega, by rw [size_set5]; exact hg.2⟩) _ HX3.out, below_set5 HB3.out (Nat.le_refl _)⟩
/-- The entries of a dictionary, as lasts has laid them. -/
theorem las_ens {l : Ens} {Sl : Nat → Prop} {w w2 : World} {rs rs' ks : List Rw} {A : Option Addr} {c : Nat} (h1 : rs.map prR = l.toL) (h3 : ∀ r ∈ rs, RwR w Sl r) (hS : ∀ g, Sl g → g < w.heap.size) (hk : ∀ p ∈ l.toL, 0 ≤ p.2.kind ∧ p.2.kind ≤ 9) (hks : ks = keepL (lastB rs') 0 rs') (s1 : Srt keyR rs') (s2 : Stb keyR rs rs') (hcap : ks.length ≤ c ∧ c ≤ 9223372036854775807)
    (hc : 0 < ks.length → ∃ g, A = some ⟨g, 0, none⟩ ∧ w.heap.size ≤ g ∧ g < w2.heap.size ∧ CellsAt w2 g 0 (flatR ks)) (hb : Below w.heap.size w w2) : ks.length = (dictF l .nil).len ∧ EnsV w2 (oldT w2) (dictF l .nil) A c ∧ ∀ p ∈ (dictF l .nil).toL, p ∈ l.toL := by
  have hkk : ∀ r ∈ rs, r.k = r.x.kind ∧ 0 ≤ r.k ∧ r.k ≤ 9 := fun r hr => by
    have e := (h3 r hr).kind
    have := hk (prR r) (by rw [← h1]; exact List.mem_map_of_mem hr)
    exact ⟨e, by rw [e]; exact this.1, by rw [e]; exact this.2⟩
  have hd := lasts_dict l rs rs' h1 hkk s1 s2
  rw [← hks] at hd
  have hmem : ∀ r ∈ ks, r ∈ rs := fun r hr => by
    have h0 := keep_lasts rs' _ 0 rfl
    rw [List.drop_zero] at h0
    rw [hks, h0] at hr
    exact (s2.mem r).1 (lastsR_mem rs' r hr)
  have hlen : ks.length = (dictF l .nil).len := by rw [← Ens.toL_len, ← hd, List.length_map]
  refine ⟨hlen, ⟨by rw [← hlen]; exact hcap, fun h0 => ?_⟩, fun p hp => ?_⟩
  · obtain ⟨g, e, g1, g2, g3⟩ := hc (by rw [hlen]; exact h0)
    have hr := rows_ens (S := oldT w2) ks g 0 g3 (fun r hr => ObR.keep (fun b hb' => hb.block b (hS b hb')) (fun b hb' => show b < w2.heap.size by have := hS b hb'; have := hb.size; omega) _ (h3 r (hmem r hr)))
    rw [hd, Ens.of_to] at hr
    exact ⟨g, 0, e, g2, hr⟩
  · rw [← hd] at hp
    obtain ⟨r, hr, rfl⟩ := List.mem_map.1 hp
    rw [← h1]
    exact List.mem_map_of_mem (hmem r hr)
set_option maxHeartbeats 1000000 in
theorem pDictC (W : Nat) (l : Ens) (Sl : Nat → Prop) (w : World) (A : Option Addr) (c : Nat) (hl : EnsV w Sl l A c) (hS : ∀ g, Sl g → g < w.heap.size) (hk : ∀ p ∈ l.toL, 0 ≤ p.2.kind ∧ p.2.kind ≤ 9) (hw : wdE W l) (hll : l.len ≤ W) (hW : W * (1 + htE l) ≤ 1000000000) (hW2 : W ≤ 100000000) : Calls Try.prog 12 #[.slice A l.len c] w (CpP w (.mk 7 0 [] .nil (dictF l .nil))) := by
  have HB := Lib.hid ((Below.refl w.heap.size w).alloc (Nat.le_refl _) (.cells #[.int .i64 0, .int .i64 0, .slice none 0 0, .slice none 0 0, .slice none 0 0] 27))
  have HN := Lib.hid (heap_alloc_new w (.cells #[.int .i64 0, .int .i64 0, .slice none 0 0, .slice none 0 0, .slice none 0 0] 27))
  obtain ⟨W0, hW0⟩ : ∃ W0, w.alloc (.cells #[.int .i64 0, .int .i64 0, .slice none 0 0, .slice none 0 0, .slice none 0 0] 27) = W0 := ⟨_, rfl⟩
  have hs0 : W0.heap.size = w.heap.size + 1 := by rw [← hW0]; simp
  rw [hW0] at HB HN
  have HS0 := Lib.hid hs0
  have HW0 := Lib.hid hW0
  clear hs0 hW0
  obtain ⟨rs, h1, h2, h4, h3⟩ := ensV_rows hl hS
  have HLA := Lib.hid (lastsC rs A c W0 (h4.below HB.out) (by omega))
  rw [h2] at HLA
  have HD : Hid (∀ A2 c2 (ks rs' : List Rw) w2, ks = keepL (lastB rs') 0 rs' → Srt keyR rs' → Stb keyR rs rs' → (ks.length ≤ c2 ∧ c2 ≤ 9223372036854775807) → (0 < ks.length → ∃ g, A2 = some ⟨g, 0, none⟩ ∧ W0.heap.size ≤ g ∧ g < w2.heap.size ∧ CellsAt w2 g 0 (flatR ks)) → Below W0.heap.size W0 w2 → Calls Try.prog 22 #[.agg #[.int .i64 7, .int .i64 0, .slice none 0 0, .slice none 0 0, .slice A2 ks.length c2]] w2 (CpP w2 (.mk 7 0 [] .nil (dictF l .nil)))) := Lib.hid (fun A2 c2 ks rs' w2 k1 k2 k3 k4 k5 k6 => by
    have hbw := HB.out.trans (k6.mono HB.out.size)
    obtain ⟨e1, e2, e3⟩ := las_ens h1 h3 hS hk k1 k2 k3 k4 (fun h0 => by
      obtain ⟨g, q1, q2, q3, q4⟩ := k5 h0
      exact ⟨g, q1, by have := HB.out.size; omega, q3, q4⟩) hbw
    refine copyOld (w := w2) W ?_ ?_ ?_
    · unfold ObR
      rw [e1]
      exact ⟨rfl, rfl, by omega, by omega, ⟨none, 0, 0, rfl, bytS_nil _ _⟩, ⟨none, 0, rfl, by simp [Obs.len], fun h => by simp [Obs.len] at h⟩, ⟨A2, c2, rfl, e2.1, e2.2⟩⟩
    · unfold wdO
      refine ⟨by simp, ?_, by unfold wdL; trivial, (wdE_iff W _).2 (fun p hp => (wdE_iff W l).1 hw p (e3 p hp))⟩
      rw [Obs.len, ← e1, k1]
      have := keepL_len (lastB rs') 0 rs'
      rw [k3.len, h2] at this
      omega
    · have := htE_le (htE l) (dictF l .nil) (fun p hp => htE_ge l p (e3 p hp))
      rw [htO, htL]
      exact Nat.le_trans (Nat.mul_le_mul_left W (by omega)) hW)
  have HLL := Lib.hid h2
  clear hl hS hk hw hW h1 h2 h3 h4
  go_enter Try.func12, Try.ntmps12
  go_upto_region 1 with fail
  rw [HW0.out]
  go_wp2_with (first | (go_at_call 44; (with_reducible refine HLA.out.mono ?_); (rintro r w2 ⟨A2, c2, ks, rs', rfl, k1, k2, k3, k4, k5, k6⟩); have HCP := Lib.hid (HD.out A2 c2 ks rs' w2 k1 k2 k3 k4 k5 k6); have HNX := Lib.hid (blk_keep9 k6 HN.out); have HBX := Lib.hid (HB.out.trans (k6.mono HB.out.size)); have HZ3 := Lib.hid k6.size; clear k1 k2 k3 k4 k5 k6 HLA HD) | (go_at_call 22; (with_reducible refine HCP.out.mono ?_); (rintro r w3 ⟨d0, d1, d2, d3, d4, rfl, hx3, hb3⟩); (obtain ⟨k9, n9, A29, m29, c29, A39, m39, c39, A49, m49, c49, rfl, rfl, rfl, rfl, rfl⟩ := hx3.form); have HX3 := Lib.hid hx3; have HN3 := Lib.hid (blk_keep9 hb3 HNX.out); have HB3 := Lib.hid (HBX.out.trans (hb3.mono HBX.out.size)); (obtain ⟨r0, r1, r2, r3, r4, r5⟩ := zero_cells HN3.out); clear hx3 hb3 HCP))
  refine bodyPost_ret (results_cell_row rfl _ _ w.heap.size 27 _ (0, 0) _ rfl (set5_row HN3.out) Try.underlying27 rfl (by kernel_rfl)) rfl ?_
  exact ⟨_, _, _, _, _, rfl, ObR.keep (fun g hg => heap_set5 (by have := hg.1; have := HS0.out; have := HZ3.out; omega)) (fun g hg => ⟨by have := hg.1; have := HS0.out; have := HZ3.out; omega, by rw [size_set5]; exact hg.2⟩) _ HX3.out, below_set5 HB3.out (Nat.le_refl _)⟩
end Go.Proofs.Ytkloipjkialakaa
