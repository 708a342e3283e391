/- Contracts of functions that the law calls, and what they lean on (a part). -/
import Derived.Test.YtliieeagbpmcgaaGreatDoorPv29
namespace Go.Proofs.YtliieeagbpmcgaaGreatDoor
section
open Go.RowKit
set_option linter.unusedVariables false
set_option maxRecDepth 100000
def prevK (d : Ens) : Nat → Option ByteArray
  | 0 => none
  | j + 1 => (d.get? j).map (·.1)
theorem ObR.shape {w : World} {S : Nat → Prop} {y : Ob} {c0 c1 c2 c3 c4 : Value} (h : ObR w S y c0 c1 c2 c3 c4) : ∃ (e1 : Int) (A2 : _) (m2 : Nat) (r2 : Nat) (A3 : _) (m3 : Nat) (r3 : Nat) (A4 : _) (m4 : Nat) (r4 : Nat), c1 = Value.int .i64 e1 ∧ c2 = Value.slice A2 m2 r2 ∧ c3 = Value.slice A3 m3 r3 ∧ c4 = Value.slice A4 m4 r4 := by
  obtain ⟨k, n, b, l, d⟩ := y
  unfold ObR at h
  obtain ⟨_, rfl, _, _, ⟨A2, m2, r2, rfl, _⟩, ⟨A3, r3, rfl, _⟩, ⟨A4, r4, rfl, _⟩⟩ := h
  exact ⟨_, _, _, _, _, _, _, _, _, _, rfl, rfl, rfl, rfl⟩
theorem nameK (s : ByteArray) (W : World) : Calls Tryz.prog 105 #[.slice (some ⟨W.heap.size, 0, none⟩) s.size (grownCap W s.size 0 5)] (Lib.bytesWorld W 5 s) fun r w' => r = .returned (.bool (nameS s)) ∧ w' = Lib.bytesWorld W 5 s := by
  have hy := strZ_byt W s
  by_cases h : 127 < s.size
  · have hv : nameS s = false := by
      unfold nameS nameZ
      rw [if_pos (by rw [hy.len]; exact h)]
    rw [hv]
    have i1 : (s.size : Int) > 127 := by omega
    obtain ⟨nn, hn⟩ : ∃ nn, s.size = nn := ⟨_, rfl⟩
    obtain ⟨cc, hc⟩ : ∃ cc, grownCap W s.size 0 5 = cc := ⟨_, rfl⟩
    obtain ⟨w2, hw2⟩ : ∃ w2, Lib.bytesWorld W 5 s = w2 := ⟨_, rfl⟩
    rw [hc, hw2]
    rw [hn] at i1 ⊢
    clear hy h hv hn hc hw2
    go_enter Tryz.func105, Tryz.ntmps105
    go_wp2_with fail
    go_ret
    exact ⟨rfl, rfl⟩
  · refine nameC (fun g => g = W.heap.size) _ _ _ _ (strZ s) ⟨hy.len, ⟨hy.cap, by omega⟩, hy.rng, fun h0 => ?_⟩
    obtain ⟨b, o, e, _, hc⟩ := hy.cell h0
    injection e with e
    injection e with e1 e2
    subst e1 e2
    exact ⟨_, _, rfl, rfl, hc⟩
set_option maxHeartbeats 8000000 in
theorem mayEC (N : Nat) (hIH : MayC N) (k n : Int) (b : List Int) (l : Obs) (d : Ens) (hN : (Ob.mk k n b l d).sz ≤ N + 1) (S : Nat → Prop) (w : World) (c0 c1 c2 c3 c4 : Value) (dp : Int) (hx : ObR w S (.mk k n b l d) c0 c1 c2 c3 c4) (hS : ∀ g, S g → g < w.heap.size) (hdp : 0 ≤ dp ∧ dp ≤ 1000) :
    Calls Tryz.prog 106 #[.agg #[c0, c1, c2, c3, c4], .int .i64 dp] w fun r w' => r = .returned (.bool (if dp < 1 ∨ 16777216 < b.length then false else mayE d none dp)) ∧ Below w.heap.size w w' := by
  have IH := Lib.hid hIH
  unfold ObR at hx
  obtain ⟨rfl, rfl, hk, hn, ⟨AB, mb, cb, rfl, hB⟩, ⟨AL, cL, rfl, hlc, hl⟩, ⟨AD, cD, rfl, hdc, hd⟩⟩ := hx
  obtain ⟨DD, hDD⟩ : ∃ DD, d.len = DD := ⟨_, rfl⟩
  have hbl : b.length = mb := hB.1
  rw [hbl]
  rw [hDD] at hdc ⊢
  obtain ⟨LL, hLL⟩ : ∃ LL, l.len = LL := ⟨_, rfl⟩
  rw [hLL] at hlc ⊢
  have hb1 := (Below.refl w.heap.size w).alloc (Nat.le_refl _) (.cells #[.int .i64 k, .int .i64 n, .slice AB mb cb, .slice AL LL cL, .slice AD DD cD] 30)
  have hnew := heap_alloc_new w (.cells #[.int .i64 k, .int .i64 n, .slice AB mb cb, .slice AL LL cL, .slice AD DD cD] 30)
  obtain ⟨W1, hW1⟩ : ∃ W1, w.alloc (.cells #[.int .i64 k, .int .i64 n, .slice AB mb cb, .slice AL LL cL, .slice AD DD cD] 30) = W1 := ⟨_, rfl⟩
  have hs1 : W1.heap.size = w.heap.size + 1 := by rw [← hW1]; simp
  rw [hW1] at hb1 hnew
  have HBX : Hid (∀ W, Below W1.heap.size W1 W → W.cell? ⟨w.heap.size, 4, none⟩ = some (.slice AD DD cD)) := Lib.hid (fun W hW => by
    have h := (hW.block w.heap.size (by omega)).trans hnew
    exact cell_of_row _ _ 4 _ _ (0, 0) h)
  have HLO : Hid (∀ W, Below W1.heap.size W1 W → Below w.heap.size w W) := Lib.hid (fun W hW => hb1.trans (hW.mono (by omega)))
  have m2 : W1.cell? ⟨w.heap.size, 2, none⟩ = some (.slice AB mb cb) := cell_of_row _ _ 2 _ _ (0, 0) hnew
  have HB1 : Hid (Below W1.heap.size W1 W1) := Lib.hid (Below.refl _ _)
  have HD := Lib.hid hd
  have HDD := Lib.hid hDD
  have HS := Lib.hid hS
  have HN := Lib.hid hN
  clear hd hDD hS hN hbl hB hl hLL hb1 hnew hs1 hIH
  by_cases hd1 : dp < 1
  · rw [if_pos (.inl hd1)]
    go_enter Tryz.func106, Tryz.ntmps106
    go_wp2_with fail
    go_ret
    exact ⟨rfl, HLO.out _ HB1.out⟩
  · by_cases hbig : 16777216 < mb
    · rw [if_pos (.inr hbig)]
      have i1 : (mb : Int) > 16777216 := by omega
      go_enter Tryz.func106, Tryz.ntmps106
      go_wp2_with fail
      go_ret
      exact ⟨rfl, HLO.out _ HB1.out⟩
    · rw [if_neg (fun h => h.elim hd1 hbig)]
      have i1 : ¬ (mb : Int) > 16777216 := by omega
      obtain ⟨R, hR⟩ : ∃ R, mayE d none dp = R := ⟨_, rfl⟩
      rw [hR]
      have HR := Lib.hid hR
      clear hR
      go_enter Tryz.func106, Tryz.ntmps106
      go_wp2_with fail
      clear m2 i1 hbig
      go_loopw [5, 6] (fun iv _ wr => ∃ i : Nat, i ≤ DD ∧ iv = .int .i64 i ∧ Hid (mayE (d.dropN i) (prevK d i) dp = R) ∧ Hid (Below W1.heap.size W1 wr)) (fun iv _ _ => DD - (intOf iv).toNat)
      case atStart => exact ⟨0, Nat.zero_le _, rfl, Lib.hid (by rw [← HR.out]; cases d <;> rfl), HB1⟩
      case round =>
        obtain ⟨i, hi, rfl, HM, HBE⟩ := hrel
        have b4 := HBX.out wr HBE.out
        by_cases hlt : i < DD
        · have hgt := d.get_some i (by rw [HDD.out]; exact hlt)
          obtain ⟨sy, y, hy⟩ := hgt
          have hww := HLO.out wr HBE.out
          obtain ⟨g, o, rfl, hg, hobs⟩ := HD.out (by rw [HDD.out]; omega)
          have hgw := HS.out g hg
          have hobs2 := EnsR.keep (S' := S) (fun b hb => hww.block b (HS.out b hb)) (fun b hb => hb) d g o hg hg hobs
          obtain ⟨d0, d1, d2, d3, d4, ks, k0, k1, k2, k3, k4, hyr⟩ := hobs2.get d g o i sy y hy
          obtain ⟨e1, A2, m2, r2, A3, m3, r3, A4, m4, r4, rfl, rfl, rfl, rfl⟩ := ObR.shape hyr
          have hysz := d.get_sz i sy y hy
          have hm := HM.out
          rw [d.drop_get i sy y hy, mayE] at hm
          have hdk := kind_c0 hyr
          obtain ⟨kk, hkk⟩ : ∃ kk, y.kind = kk := ⟨_, rfl⟩
          rw [hkk] at hdk hm
          subst hdk
          have hli : (i : Int) < DD := by omega
          have w1 : IntKind.i64.wrap (dp - 1) = dp - 1 := IntWalk.i64_in _ (by omega)
          have HPK : Hid (prevK d (i + 1) = some sy) := Lib.hid (by rw [prevK, hy]; rfl)
          obtain ⟨V, hV⟩ : ∃ V, mayO y (dp - 1) = V := ⟨_, rfl⟩
          rw [hV] at hm
          -- the entry in a block of its own
          have hb6 := (Below.refl wr.heap.size wr).alloc (Nat.le_refl _) (.cells #[.string sy, .int .i64 kk, (.int .i64 e1), (.slice A2 m2 r2), (.slice A3 m3 r3), (.slice A4 m4 r4)] 91)
          have hn6 := heap_alloc_new wr (.cells #[.string sy, .int .i64 kk, (.int .i64 e1), (.slice A2 m2 r2), (.slice A3 m3 r3), (.slice A4 m4 r4)] 91)
          obtain ⟨W6, hW6⟩ : ∃ W6, wr.alloc (.cells #[.string sy, .int .i64 kk, (.int .i64 e1), (.slice A2 m2 r2), (.slice A3 m3 r3), (.slice A4 m4 r4)] 91) = W6 := ⟨_, rfl⟩
          have hs6 : W6.heap.size = wr.heap.size + 1 := by rw [← hW6]; simp
          have HW6 := Lib.hid hW6
          rw [hW6] at hb6 hn6
          have HLW : Hid (∀ W, Below W6.heap.size W6 W → Below W1.heap.size W1 W) := Lib.hid (fun W hW => HBE.out.trans ((hb6.trans (hW.mono (by omega))).mono HBE.out.size))
          have HLO6 : Hid (∀ W, Below W6.heap.size W6 W → Below w.heap.size w W) := Lib.hid (fun W hW => HLO.out W (HLW.out W hW))
          have HE0 : Hid (∀ W, Below W6.heap.size W6 W → W.cell? ⟨w.heap.size, 4, none⟩ = some (.slice (some ⟨g, o, none⟩) DD cD) ∧ W.cell? ⟨wr.heap.size, 0, none⟩ = some (.string sy) ∧ W.cell? ⟨wr.heap.size, 1, none⟩ = some (.int .i64 kk) ∧ W.cell? ⟨wr.heap.size, 2, none⟩ = some (.int .i64 e1) ∧ W.cell? ⟨wr.heap.size, 3, none⟩ = some (.slice A2 m2 r2) ∧ W.cell? ⟨wr.heap.size, 4, none⟩ = some (.slice A3 m3 r3) ∧ W.cell? ⟨wr.heap.size, 5, none⟩ = some (.slice A4 m4 r4)) := Lib.hid (fun W hW => by
            have h := (hW.block wr.heap.size (by omega)).trans hn6
            exact ⟨HBX.out W (HLW.out W hW), cell_of_row _ _ 0 _ _ (0, 0) h, cell_of_row _ _ 1 _ _ (0, 0) h, cell_of_row _ _ 2 _ _ (0, 0) h, cell_of_row _ _ 3 _ _ (0, 0) h, cell_of_row _ _ 4 _ _ (0, 0) h, cell_of_row _ _ 5 _ _ (0, 0) h⟩)
          have HI : Hid (∀ W, Below W6.heap.size W6 W → Calls Tryz.prog 62 #[.agg #[.int .i64 kk, (.int .i64 e1), (.slice A2 m2 r2), (.slice A3 m3 r3), (.slice A4 m4 r4)], .int .i64 (dp - 1)] W fun r w' => r = .returned (.bool V) ∧ Below W.heap.size W w') := Lib.hid (fun W hW => by
            rw [← hV]
            have hwW := HLO6.out W hW
            exact IH.out y (by have := HN.out; rw [Ob.sz] at this; omega) S W _ (.int .i64 e1) (.slice A2 m2 r2) (.slice A3 m3 r3) (.slice A4 m4 r4) (dp - 1) (ObR.keep (fun b hb => (hwW.block b (HS.out b hb)).trans (hww.block b (HS.out b hb)).symm) (fun _ h => h) y hyr) (fun b hb => Nat.lt_of_lt_of_le (HS.out b hb) hwW.size) (by omega))
          have HPR : Hid (0 < i → ∃ p yp, d.get? (i - 1) = some (p, yp) ∧ ∀ W, Below W6.heap.size W6 W → W.cell? ⟨g, o + (i - 1) * 6, none⟩ = some (.string p)) := Lib.hid (fun h0 => by
            obtain ⟨p, yp, hp⟩ := d.get_some (i - 1) (by rw [HDD.out]; omega)
            obtain ⟨_, _, _, _, _, kp, _⟩ := hobs.get d g o (i - 1) p yp hp
            exact ⟨p, yp, hp, fun W hW => (World.cell?_of_block ((HLO6.out W hW).block g hgw)).trans kp⟩)
          have HB6d : Hid (Below W6.heap.size W6 W6.drew) := Lib.hid (Below.refl _ _).drew
          have HB7 : Hid (Below W6.heap.size W6 (Lib.bytesWorld W6.drew 5 sy)) := Lib.hid (HB6d.out.trans (strZ_below W6.drew sy))
          have hby := strZ_byt W6.drew sy
          have hcv := Lib.run_convert_string_bytes (P := Tryz.prog) W6.drew 9 23 5 sy Tryz.underlying9 Tryz.underlying23 Tryz.underlying5
          have HNM0 := nameK sy W6.drew
          obtain ⟨NS, hNS⟩ : ∃ NS, nameS sy = NS := ⟨_, rfl⟩
          rw [hNS] at HNM0 hm
          obtain ⟨cc, hcc⟩ : ∃ cc, grownCap W6.drew sy.size 0 5 = cc := ⟨_, rfl⟩
          rw [hcc] at HNM0 hcv
          have HNM := Lib.hid HNM0
          clear HNM0 hNS hby hV hcc hkk hy hobs hobs2 hyr hysz hg hgw hww hb6 hn6 hW6 hs6
          cases NS
          · have HEN := HE0
            rw [if_neg (fun h => by cases h.1)] at hm
            subst hm
            go_upto_region 7 with fail
            rw [HW6.out]
            refine wp_region_heldR (fun w' => w'.cell? ⟨w.heap.size, 4, none⟩ = some (.slice (some ⟨g, o, none⟩) DD cD) ∧ w'.cell? ⟨wr.heap.size, 0, none⟩ = some (.string sy) ∧ w'.cell? ⟨wr.heap.size, 1, none⟩ = some (.int .i64 kk) ∧ w'.cell? ⟨wr.heap.size, 2, none⟩ = some (.int .i64 e1) ∧ w'.cell? ⟨wr.heap.size, 3, none⟩ = some (.slice A2 m2 r2) ∧ w'.cell? ⟨wr.heap.size, 4, none⟩ = some (.slice A3 m3 r3) ∧ w'.cell? ⟨wr.heap.size, 5, none⟩ = some (.slice A4 m4 r4)) 1000 (by kernel_rfl) (HEN.out _ HB6d.out) (fun hHeld => ?_)
            refine wpAnyR_take 0 rfl (by kernel_rfl) (by kernel_rfl) (by kernel_rfl) (by kernel_rfl) (fun _ _ _ h => h) (by rfl) (v := ?_) ?_ (by assumption) ?_
            rotate_left
            focus
              intro wS hSw
              (try dsimp only at hSw)
              go_simp
              (try simp only [hbo])
              (try simp only [gd])
              (try simp only [hwj])
              (try simp only [w2, hjb, if_true, Int.toNat_natCast])
              (try simp only [n8])
              (try simp only [n0])
              try with_reducible rfl
            intro hHeld
            try simp only [Act.put, List.setIfInBounds_toArray, List.set_cons_zero, List.set_cons_succ]
            refine wpAnyR_take 1 rfl (by kernel_rfl) (by kernel_rfl) (by kernel_rfl) (by kernel_rfl) (fun _ _ _ h => h) (by rfl) (v := ?_) ?_ (by assumption) ?_
            rotate_left
            focus
              intro wS hSw
              (try dsimp only at hSw)
              go_simp
              (try simp only [hbo])
              (try simp only [gd])
              (try simp only [hwj])
              (try simp only [w2, hjb, if_true, Int.toNat_natCast])
              (try simp only [n8])
              (try simp only [n0])
              try with_reducible rfl
            intro hHeld
            try simp only [Act.put, List.setIfInBounds_toArray, List.set_cons_zero, List.set_cons_succ]
            refine wpAnyR_step 2 rfl (by kernel_rfl) (fun K hK => ?_)
            go_simp
            refine hK.out _ _ (HEN.out _ HB7.out) (fun hHeld => ?_)
            clear hK K
            try simp only [Act.put, List.setIfInBounds_toArray, List.set_cons_zero, List.set_cons_succ]
            refine wpAnyR_step 3 rfl (by kernel_rfl) (fun K hK => ?_)
            go_simp
            go_at_call 105
            refine HNM.out.mono ?_
            rintro r w3 ⟨rfl, rfl⟩
            go_wp2_with fail
            refine hK.out _ _ (HEN.out _ HB7.out) (fun hHeld => ?_)
            clear hK K
            try simp only [Act.put, List.setIfInBounds_toArray, List.set_cons_zero, List.set_cons_succ]
            refine wpAnyR_take 4 rfl (by kernel_rfl) (by kernel_rfl) (by kernel_rfl) (by kernel_rfl) (fun _ _ _ h => h) (by rfl) (v := ?_) ?_ (by assumption) ?_
            rotate_left
            focus
              intro wS hSw
              (try dsimp only at hSw)
              go_simp
              (try simp only [hbo])
              (try simp only [gd])
              (try simp only [hwj])
              (try simp only [w2, hjb, if_true, Int.toNat_natCast])
              (try simp only [n8])
              (try simp only [n0])
              try with_reducible rfl
            intro hHeld
            try simp only [Act.put, List.setIfInBounds_toArray, List.set_cons_zero, List.set_cons_succ]
            refine wpAnyR_take 5 rfl (by kernel_rfl) (by kernel_rfl) (by kernel_rfl) (by kernel_rfl) (fun _ _ _ h => h) (by rfl) (v := ?_) ?_ (by assumption) ?_
            rotate_left
            focus
              intro wS hSw
              (try dsimp only at hSw)
              go_simp
              (try simp only [hbo])
              (try simp only [gd])
              (try simp only [hwj])
              (try simp only [w2, hjb, if_true, Int.toNat_natCast])
              (try simp only [n8])
              (try simp only [n0])
              try with_reducible rfl
            intro hHeld
            try simp only [Act.put, List.setIfInBounds_toArray, List.set_cons_zero, List.set_cons_succ]
            refine wpAnyR_skip 6 rfl (by kernel_rfl) (by kernel_rfl) (by kernel_rfl) (by kernel_rfl) (fun _ _ _ h => h) (by rfl) (by assumption) ?_
            intro hHeld
            try simp only [Act.put, List.setIfInBounds_toArray, List.set_cons_zero, List.set_cons_succ]
            refine wpAnyR_skip 7 rfl (by kernel_rfl) (by kernel_rfl) (by kernel_rfl) (by kernel_rfl) (fun _ _ _ h => h) (by rfl) (by assumption) ?_
            intro hHeld
            try simp only [Act.put, List.setIfInBounds_toArray, List.set_cons_zero, List.set_cons_succ]
            refine wpAnyR_skip 8 rfl (by kernel_rfl) (by kernel_rfl) (by kernel_rfl) (by kernel_rfl) (fun _ _ _ h => h) (by rfl) (by assumption) ?_
            intro hHeld
            try simp only [Act.put, List.setIfInBounds_toArray, List.set_cons_zero, List.set_cons_succ]
            refine wpAnyR_skip 9 rfl (by kernel_rfl) (by kernel_rfl) (by kernel_rfl) (by kernel_rfl) (fun _ _ _ h => h) (by rfl) (by assumption) ?_
            intro hHeld
            try simp only [Act.put, List.setIfInBounds_toArray, List.set_cons_zero, List.set_cons_succ]
            refine wpAnyR_skip 10 rfl (by kernel_rfl) (by kernel_rfl) (by kernel_rfl) (by kernel_rfl) (fun _ _ _ h => h) (by rfl) (by assumption) ?_
            intro hHeld
            try simp only [Act.put, List.setIfInBounds_toArray, List.set_cons_zero, List.set_cons_succ]
            refine wpAnyR_skip 11 rfl (by kernel_rfl) (by kernel_rfl) (by kernel_rfl) (by kernel_rfl) (fun _ _ _ h => h) (by rfl) (by assumption) ?_
            intro hHeld
            try simp only [Act.put, List.setIfInBounds_toArray, List.set_cons_zero, List.set_cons_succ]
            refine wpAnyR_skip 12 rfl (by kernel_rfl) (by kernel_rfl) (by kernel_rfl) (by kernel_rfl) (fun _ _ _ h => h) (by rfl) (by assumption) ?_
            intro hHeld
            try simp only [Act.put, List.setIfInBounds_toArray, List.set_cons_zero, List.set_cons_succ]
            refine wpAnyR_skip 13 rfl (by kernel_rfl) (by kernel_rfl) (by kernel_rfl) (by kernel_rfl) (fun _ _ _ h => h) (by rfl) (by assumption) ?_
            intro hHeld
            try simp only [Act.put, List.setIfInBounds_toArray, List.set_cons_zero, List.set_cons_succ]
            refine wpAnyR_skip 14 rfl (by kernel_rfl) (by kernel_rfl) (by kernel_rfl) (by kernel_rfl) (fun _ _ _ h => h) (by rfl) (by assumption) ?_
            intro hHeld
            try simp only [Act.put, List.setIfInBounds_toArray, List.set_cons_zero, List.set_cons_succ]
            refine wpAnyR_skip 15 rfl (by kernel_rfl) (by kernel_rfl) (by kernel_rfl) (by kernel_rfl) (fun _ _ _ h => h) (by rfl) (by assumption) ?_
            intro hHeld
            try simp only [Act.put, List.setIfInBounds_toArray, List.set_cons_zero, List.set_cons_succ]
            refine wpAnyR_skip 16 rfl (by kernel_rfl) (by kernel_rfl) (by kernel_rfl) (by kernel_rfl) (fun _ _ _ h => h) (by rfl) (by assumption) ?_
            intro hHeld
            try simp only [Act.put, List.setIfInBounds_toArray, List.set_cons_zero, List.set_cons_succ]
            refine wpAnyR_skip 17 rfl (by kernel_rfl) (by kernel_rfl) (by kernel_rfl) (by kernel_rfl) (fun _ _ _ h => h) (by rfl) (by assumption) ?_
            intro hHeld
            try simp only [Act.put, List.setIfInBounds_toArray, List.set_cons_zero, List.set_cons_succ]
            refine wpAnyR_skip 18 rfl (by kernel_rfl) (by kernel_rfl) (by kernel_rfl) (by kernel_rfl) (fun _ _ _ h => h) (by rfl) (by assumption) ?_
            intro hHeld
            try simp only [Act.put, List.setIfInBounds_toArray, List.set_cons_zero, List.set_cons_succ]
            refine wpAnyR_skip 19 rfl (by kernel_rfl) (by kernel_rfl) (by kernel_rfl) (by kernel_rfl) (fun _ _ _ h => h) (by rfl) (by assumption) ?_
            intro hHeld
            try simp only [Act.put, List.setIfInBounds_toArray, List.set_cons_zero, List.set_cons_succ]
            refine wpAnyR_take 20 rfl (by kernel_rfl) (by kernel_rfl) (by kernel_rfl) (by kernel_rfl) (fun _ _ _ h => h) (by rfl) (v := ?_) ?_ (by assumption) ?_
            rotate_left
            focus
              intro wS hSw
              (try dsimp only at hSw)
              go_simp
              (try simp only [hbo])
              (try simp only [gd])
              (try simp only [hwj])
              (try simp only [w2, hjb, if_true, Int.toNat_natCast])
              (try simp only [n8])
              (try simp only [n0])
              try with_reducible rfl
            intro hHeld
            try simp only [Act.put, List.setIfInBounds_toArray, List.set_cons_zero, List.set_cons_succ]
            refine wpAnyR_take 21 rfl (by kernel_rfl) (by kernel_rfl) (by kernel_rfl) (by kernel_rfl) (fun _ _ _ h => h) (by rfl) (v := ?_) ?_ (by assumption) ?_
            rotate_left
            focus
              intro wS hSw
              (try dsimp only at hSw)
              go_simp
              (try simp only [hbo])
              (try simp only [gd])
              (try simp only [hwj])
              (try simp only [w2, hjb, if_true, Int.toNat_natCast])
              (try simp only [n8])
              (try simp only [n0])
              try with_reducible rfl
            intro hHeld
            try simp only [Act.put, List.setIfInBounds_toArray, List.set_cons_zero, List.set_cons_succ]
            refine wpAnyR_skip 22 rfl (by kernel_rfl) (by kernel_rfl) (by kernel_rfl) (by kernel_rfl) (fun _ _ _ h => h) (by rfl) (by assumption) ?_
            intro hHeld
            try simp only [Act.put, List.setIfInBounds_toArray, List.set_cons_zero, List.set_cons_succ]
            refine wpAnyR_skip 23 rfl (by kernel_rfl) (by kernel_rfl) (by kernel_rfl) (by kernel_rfl) (fun _ _ _ h => h) (by rfl) (by assumption) ?_
            intro hHeld
            try simp only [Act.put, List.setIfInBounds_toArray, List.set_cons_zero, List.set_cons_succ]
            refine wpAnyR_skip 24 rfl (by kernel_rfl) (by kernel_rfl) (by kernel_rfl) (by kernel_rfl) (fun _ _ _ h => h) (by rfl) (by assumption) ?_
            intro hHeld
            try simp only [Act.put, List.setIfInBounds_toArray, List.set_cons_zero, List.set_cons_succ]
            refine wpAnyR_skip 25 rfl (by kernel_rfl) (by kernel_rfl) (by kernel_rfl) (by kernel_rfl) (fun _ _ _ h => h) (by rfl) (by assumption) ?_
            intro hHeld
            try simp only [Act.put, List.setIfInBounds_toArray, List.set_cons_zero, List.set_cons_succ]
            refine wpAnyR_take 26 rfl (by kernel_rfl) (by kernel_rfl) (by kernel_rfl) (by kernel_rfl) (fun _ _ _ h => h) (by rfl) (v := ?_) ?_ (by assumption) ?_
            rotate_left
            focus
              intro wS hSw
              (try dsimp only at hSw)
              go_simp
              (try simp only [hbo])
              (try simp only [gd])
              (try simp only [hwj])
              (try simp only [w2, hjb, if_true, Int.toNat_natCast])
              (try simp only [n8])
              (try simp only [n0])
              try with_reducible rfl
            intro hHeld
            try simp only [Act.put, List.setIfInBounds_toArray, List.set_cons_zero, List.set_cons_succ]
            refine wpAnyR_take 27 rfl (by kernel_rfl) (by kernel_rfl) (by kernel_rfl) (by kernel_rfl) (fun _ _ _ h => h) (by rfl) (v := ?_) ?_ (by assumption) ?_
            rotate_left
            focus
              intro wS hSw
              (try dsimp only at hSw)
              go_simp
              (try simp only [hbo])
              (try simp only [gd])
              (try simp only [hwj])
              (try simp only [w2, hjb, if_true, Int.toNat_natCast])
              (try simp only [n8])
              (try simp only [n0])
              try with_reducible rfl
            intro hHeld
            try simp only [Act.put, List.setIfInBounds_toArray, List.set_cons_zero, List.set_cons_succ]
            refine wpAnyR_skip 28 rfl (by kernel_rfl) (by kernel_rfl) (by kernel_rfl) (by kernel_rfl) (fun _ _ _ h => h) (by rfl) (by assumption) ?_
            intro hHeld
            try simp only [Act.put, List.setIfInBounds_toArray, List.set_cons_zero, List.set_cons_succ]
            refine wpAnyR_skip 29 rfl (by kernel_rfl) (by kernel_rfl) (by kernel_rfl) (by kernel_rfl) (fun _ _ _ h => h) (by rfl) (by assumption) ?_
            intro hHeld
            try simp only [Act.put, List.setIfInBounds_toArray, List.set_cons_zero, List.set_cons_succ]
            refine wpAnyR_skip 30 rfl (by kernel_rfl) (by kernel_rfl) (by kernel_rfl) (by kernel_rfl) (fun _ _ _ h => h) (by rfl) (by assumption) ?_
            intro hHeld
            try simp only [Act.put, List.setIfInBounds_toArray, List.set_cons_zero, List.set_cons_succ]
            refine wpAnyR_skip 31 rfl (by kernel_rfl) (by kernel_rfl) (by kernel_rfl) (by kernel_rfl) (fun _ _ _ h => h) (by rfl) (by assumption) ?_
            intro hHeld
            try simp only [Act.put, List.setIfInBounds_toArray, List.set_cons_zero, List.set_cons_succ]
            refine wpAnyR_take 32 rfl (by kernel_rfl) (by kernel_rfl) (by kernel_rfl) (by kernel_rfl) (fun _ _ _ h => h) (by rfl) (v := ?_) ?_ (by assumption) ?_
            rotate_left
            focus
              intro wS hSw
              (try dsimp only at hSw)
              go_simp
              (try simp only [hbo])
              (try simp only [gd])
              (try simp only [hwj])
              (try simp only [w2, hjb, if_true, Int.toNat_natCast])
              (try simp only [n8])
              (try simp only [n0])
              try with_reducible rfl
            intro hHeld
            try simp only [Act.put, List.setIfInBounds_toArray, List.set_cons_zero, List.set_cons_succ]
            refine wpAnyR_take 33 rfl (by kernel_rfl) (by kernel_rfl) (by kernel_rfl) (by kernel_rfl) (fun _ _ _ h => h) (by rfl) (v := ?_) ?_ (by assumption) ?_
            rotate_left
            focus
              intro wS hSw
              (try dsimp only at hSw)
              go_simp
              (try simp only [hbo])
              (try simp only [gd])
              (try simp only [hwj])
              (try simp only [w2, hjb, if_true, Int.toNat_natCast])
              (try simp only [n8])
              (try simp only [n0])
              try with_reducible rfl
            intro hHeld
            try simp only [Act.put, List.setIfInBounds_toArray, List.set_cons_zero, List.set_cons_succ]
            refine wpAnyR_skip 34 rfl (by kernel_rfl) (by kernel_rfl) (by kernel_rfl) (by kernel_rfl) (fun _ _ _ h => h) (by rfl) (by assumption) ?_
            intro hHeld
            try simp only [Act.put, List.setIfInBounds_toArray, List.set_cons_zero, List.set_cons_succ]
            refine wpAnyR_skip 35 rfl (by kernel_rfl) (by kernel_rfl) (by kernel_rfl) (by kernel_rfl) (fun _ _ _ h => h) (by rfl) (by assumption) ?_
            intro hHeld
            try simp only [Act.put, List.setIfInBounds_toArray, List.set_cons_zero, List.set_cons_succ]
            refine wpAnyR_skip 36 rfl (by kernel_rfl) (by kernel_rfl) (by kernel_rfl) (by kernel_rfl) (fun _ _ _ h => h) (by rfl) (by assumption) ?_
            intro hHeld
            try simp only [Act.put, List.setIfInBounds_toArray, List.set_cons_zero, List.set_cons_succ]
            refine wpAnyR_skip 37 rfl (by kernel_rfl) (by kernel_rfl) (by kernel_rfl) (by kernel_rfl) (fun _ _ _ h => h) (by rfl) (by assumption) ?_
            intro hHeld
            try simp only [Act.put, List.setIfInBounds_toArray, List.set_cons_zero, List.set_cons_succ]
            refine wpAnyR_skip 38 rfl (by kernel_rfl) (by kernel_rfl) (by kernel_rfl) (by kernel_rfl) (fun _ _ _ h => h) (by rfl) (by assumption) ?_
            intro hHeld
            try simp only [Act.put, List.setIfInBounds_toArray, List.set_cons_zero, List.set_cons_succ]
            refine wpAnyR_skip 39 rfl (by kernel_rfl) (by kernel_rfl) (by kernel_rfl) (by kernel_rfl) (fun _ _ _ h => h) (by rfl) (by assumption) ?_
            intro hHeld
            try simp only [Act.put, List.setIfInBounds_toArray, List.set_cons_zero, List.set_cons_succ]
            refine wpAnyR_take 40 rfl (by kernel_rfl) (by kernel_rfl) (by kernel_rfl) (by kernel_rfl) (fun _ _ _ h => h) (by rfl) (v := ?_) ?_ (by assumption) ?_
            rotate_left
            focus
              intro wS hSw
              (try dsimp only at hSw)
              go_simp
              (try simp only [hbo])
              (try simp only [gd])
              (try simp only [hwj])
              (try simp only [w2, hjb, if_true, Int.toNat_natCast])
              (try simp only [n8])
              (try simp only [n0])
              try with_reducible rfl
            intro hHeld
            try simp only [Act.put, List.setIfInBounds_toArray, List.set_cons_zero, List.set_cons_succ]
            refine wpAnyR_done (by kernel_rfl) ?_
            refine NoPanic.normal ?_
            go_wp2_with fail
            go_ret
            exact ⟨rfl, HLO6.out _ HB7.out⟩
          · by_cases hi0 : i = 0
            · have HEN := HE0
              have gd : decide (0 < i) = false := decide_eq_false (by omega)
              have hpk : ∀ q, prevK d i = some q → leS sy q = false := fun q h => by rw [hi0] at h; cases h
              clear hi0
              go_upto_region 7 with fail
              rw [HW6.out]
              refine wp_region_heldR (fun w' => w'.cell? ⟨w.heap.size, 4, none⟩ = some (.slice (some ⟨g, o, none⟩) DD cD) ∧ w'.cell? ⟨wr.heap.size, 0, none⟩ = some (.string sy) ∧ w'.cell? ⟨wr.heap.size, 1, none⟩ = some (.int .i64 kk) ∧ w'.cell? ⟨wr.heap.size, 2, none⟩ = some (.int .i64 e1) ∧ w'.cell? ⟨wr.heap.size, 3, none⟩ = some (.slice A2 m2 r2) ∧ w'.cell? ⟨wr.heap.size, 4, none⟩ = some (.slice A3 m3 r3) ∧ w'.cell? ⟨wr.heap.size, 5, none⟩ = some (.slice A4 m4 r4)) 1000 (by kernel_rfl) (HEN.out _ HB6d.out) (fun hHeld => ?_)
              refine wpAnyR_take 0 rfl (by kernel_rfl) (by kernel_rfl) (by kernel_rfl) (by kernel_rfl) (fun _ _ _ h => h) (by rfl) (v := ?_) ?_ (by assumption) ?_
              rotate_left
              focus
                intro wS hSw
                (try dsimp only at hSw)
                go_simp
                (try simp only [hbo])
                (try simp only [gd])
                (try simp only [hwj])
                (try simp only [w2, hjb, if_true, Int.toNat_natCast])
                (try simp only [n8])
                (try simp only [n0])
                try with_reducible rfl
              intro hHeld
              try simp only [Act.put, List.setIfInBounds_toArray, List.set_cons_zero, List.set_cons_succ]
              refine wpAnyR_take 1 rfl (by kernel_rfl) (by kernel_rfl) (by kernel_rfl) (by kernel_rfl) (fun _ _ _ h => h) (by rfl) (v := ?_) ?_ (by assumption) ?_
              rotate_left
              focus
                intro wS hSw
                (try dsimp only at hSw)
                go_simp
                (try simp only [hbo])
                (try simp only [gd])
                (try simp only [hwj])
                (try simp only [w2, hjb, if_true, Int.toNat_natCast])
                (try simp only [n8])
                (try simp only [n0])
                try with_reducible rfl
              intro hHeld
              try simp only [Act.put, List.setIfInBounds_toArray, List.set_cons_zero, List.set_cons_succ]
              refine wpAnyR_step 2 rfl (by kernel_rfl) (fun K hK => ?_)
              go_simp
              refine hK.out _ _ (HEN.out _ HB7.out) (fun hHeld => ?_)
              clear hK K
              try simp only [Act.put, List.setIfInBounds_toArray, List.set_cons_zero, List.set_cons_succ]
              refine wpAnyR_step 3 rfl (by kernel_rfl) (fun K hK => ?_)
              go_simp
              go_at_call 105
              refine HNM.out.mono ?_
              rintro r w3 ⟨rfl, rfl⟩
              go_wp2_with fail
              refine hK.out _ _ (HEN.out _ HB7.out) (fun hHeld => ?_)
              clear hK K
              try simp only [Act.put, List.setIfInBounds_toArray, List.set_cons_zero, List.set_cons_succ]
              refine wpAnyR_take 4 rfl (by kernel_rfl) (by kernel_rfl) (by kernel_rfl) (by kernel_rfl) (fun _ _ _ h => h) (by rfl) (v := ?_) ?_ (by assumption) ?_
              rotate_left
              focus
                intro wS hSw
                (try dsimp only at hSw)
                go_simp
                (try simp only [hbo])
                (try simp only [gd])
                (try simp only [hwj])
                (try simp only [w2, hjb, if_true, Int.toNat_natCast])
                (try simp only [n8])
                (try simp only [n0])
                try with_reducible rfl
              intro hHeld
              try simp only [Act.put, List.setIfInBounds_toArray, List.set_cons_zero, List.set_cons_succ]
              refine wpAnyR_take 5 rfl (by kernel_rfl) (by kernel_rfl) (by kernel_rfl) (by kernel_rfl) (fun _ _ _ h => h) (by rfl) (v := ?_) ?_ (by assumption) ?_
              rotate_left
              focus
                intro wS hSw
                (try dsimp only at hSw)
                go_simp
                (try simp only [hbo])
                (try simp only [gd])
                (try simp only [hwj])
                (try simp only [w2, hjb, if_true, Int.toNat_natCast])
                (try simp only [n8])
                (try simp only [n0])
                try with_reducible rfl
              intro hHeld
              try simp only [Act.put, List.setIfInBounds_toArray, List.set_cons_zero, List.set_cons_succ]
              refine wpAnyR_take 6 rfl (by kernel_rfl) (by kernel_rfl) (by kernel_rfl) (by kernel_rfl) (fun _ _ _ h => h) (by rfl) (v := ?_) ?_ (by assumption) ?_
              rotate_left
              focus
                intro wS hSw
                (try dsimp only at hSw)
                go_simp
                (try simp only [hbo])
                (try simp only [gd])
                (try simp only [hwj])
                (try simp only [w2, hjb, if_true, Int.toNat_natCast])
                (try simp only [n8])
                (try simp only [n0])
                try with_reducible rfl
              intro hHeld
              try simp only [Act.put, List.setIfInBounds_toArray, List.set_cons_zero, List.set_cons_succ]
              refine wpAnyR_take 7 rfl (by kernel_rfl) (by kernel_rfl) (by kernel_rfl) (by kernel_rfl) (fun _ _ _ h => h) (by rfl) (v := ?_) ?_ (by assumption) ?_
              rotate_left
              focus
                intro wS hSw
                (try dsimp only at hSw)
                go_simp
                (try simp only [hbo])
                (try simp only [gd])
                (try simp only [hwj])
                (try simp only [w2, hjb, if_true, Int.toNat_natCast])
                (try simp only [n8])
                (try simp only [n0])
                try with_reducible rfl
              intro hHeld
              try simp only [Act.put, List.setIfInBounds_toArray, List.set_cons_zero, List.set_cons_succ]
              refine wpAnyR_take 8 rfl (by kernel_rfl) (by kernel_rfl) (by kernel_rfl) (by kernel_rfl) (fun _ _ _ h => h) (by rfl) (v := ?_) ?_ (by assumption) ?_
              rotate_left
              focus
                intro wS hSw
                (try dsimp only at hSw)
                go_simp
                (try simp only [hbo])
                (try simp only [gd])
                (try simp only [hwj])
                (try simp only [w2, hjb, if_true, Int.toNat_natCast])
                (try simp only [n8])
                (try simp only [n0])
                try with_reducible rfl
              intro hHeld
              try simp only [Act.put, List.setIfInBounds_toArray, List.set_cons_zero, List.set_cons_succ]
              refine wpAnyR_skip 9 rfl (by kernel_rfl) (by kernel_rfl) (by kernel_rfl) (by kernel_rfl) (fun _ _ _ h => h) (by rfl) (by assumption) ?_
              intro hHeld
              try simp only [Act.put, List.setIfInBounds_toArray, List.set_cons_zero, List.set_cons_succ]
              refine wpAnyR_skip 10 rfl (by kernel_rfl) (by kernel_rfl) (by kernel_rfl) (by kernel_rfl) (fun _ _ _ h => h) (by rfl) (by assumption) ?_
              intro hHeld
              try simp only [Act.put, List.setIfInBounds_toArray, List.set_cons_zero, List.set_cons_succ]
              refine wpAnyR_skip 11 rfl (by kernel_rfl) (by kernel_rfl) (by kernel_rfl) (by kernel_rfl) (fun _ _ _ h => h) (by rfl) (by assumption) ?_
              intro hHeld
              try simp only [Act.put, List.setIfInBounds_toArray, List.set_cons_zero, List.set_cons_succ]
              refine wpAnyR_skip 12 rfl (by kernel_rfl) (by kernel_rfl) (by kernel_rfl) (by kernel_rfl) (fun _ _ _ h => h) (by rfl) (by assumption) ?_
              intro hHeld
              try simp only [Act.put, List.setIfInBounds_toArray, List.set_cons_zero, List.set_cons_succ]
              refine wpAnyR_skip 13 rfl (by kernel_rfl) (by kernel_rfl) (by kernel_rfl) (by kernel_rfl) (fun _ _ _ h => h) (by rfl) (by assumption) ?_
              intro hHeld
              try simp only [Act.put, List.setIfInBounds_toArray, List.set_cons_zero, List.set_cons_succ]
              refine wpAnyR_skip 14 rfl (by kernel_rfl) (by kernel_rfl) (by kernel_rfl) (by kernel_rfl) (fun _ _ _ h => h) (by rfl) (by assumption) ?_
              intro hHeld
              try simp only [Act.put, List.setIfInBounds_toArray, List.set_cons_zero, List.set_cons_succ]
              refine wpAnyR_skip 15 rfl (by kernel_rfl) (by kernel_rfl) (by kernel_rfl) (by kernel_rfl) (fun _ _ _ h => h) (by rfl) (by assumption) ?_
              intro hHeld
              try simp only [Act.put, List.setIfInBounds_toArray, List.set_cons_zero, List.set_cons_succ]
              refine wpAnyR_skip 16 rfl (by kernel_rfl) (by kernel_rfl) (by kernel_rfl) (by kernel_rfl) (fun _ _ _ h => h) (by rfl) (by assumption) ?_
              intro hHeld
              try simp only [Act.put, List.setIfInBounds_toArray, List.set_cons_zero, List.set_cons_succ]
              refine wpAnyR_skip 17 rfl (by kernel_rfl) (by kernel_rfl) (by kernel_rfl) (by kernel_rfl) (fun _ _ _ h => h) (by rfl) (by assumption) ?_
              intro hHeld
              try simp only [Act.put, List.setIfInBounds_toArray, List.set_cons_zero, List.set_cons_succ]
              refine wpAnyR_skip 18 rfl (by kernel_rfl) (by kernel_rfl) (by kernel_rfl) (by kernel_rfl) (fun _ _ _ h => h) (by rfl) (by assumption) ?_
              intro hHeld
              try simp only [Act.put, List.setIfInBounds_toArray, List.set_cons_zero, List.set_cons_succ]
              refine wpAnyR_take 19 rfl (by kernel_rfl) (by kernel_rfl) (by kernel_rfl) (by kernel_rfl) (fun _ _ _ h => h) (by rfl) (v := ?_) ?_ (by assumption) ?_
              rotate_left
              focus
                intro wS hSw
                (try dsimp only at hSw)
                go_simp
                (try simp only [hbo])
                (try simp only [gd])
                (try simp only [hwj])
                (try simp only [w2, hjb, if_true, Int.toNat_natCast])
                (try simp only [n8])
                (try simp only [n0])
                try with_reducible rfl
              intro hHeld
              try simp only [Act.put, List.setIfInBounds_toArray, List.set_cons_zero, List.set_cons_succ]
              refine wpAnyR_take 20 rfl (by kernel_rfl) (by kernel_rfl) (by kernel_rfl) (by kernel_rfl) (fun _ _ _ h => h) (by rfl) (v := ?_) ?_ (by assumption) ?_
              rotate_left
              focus
                intro wS hSw
                (try dsimp only at hSw)
                go_simp
                (try simp only [hbo])
                (try simp only [gd])
                (try simp only [hwj])
                (try simp only [w2, hjb, if_true, Int.toNat_natCast])
                (try simp only [n8])
                (try simp only [n0])
                try with_reducible rfl
              intro hHeld
              try simp only [Act.put, List.setIfInBounds_toArray, List.set_cons_zero, List.set_cons_succ]
              refine wpAnyR_take 21 rfl (by kernel_rfl) (by kernel_rfl) (by kernel_rfl) (by kernel_rfl) (fun _ _ _ h => h) (by rfl) (v := ?_) ?_ (by assumption) ?_
              rotate_left
              focus
                intro wS hSw
                (try dsimp only at hSw)
                go_simp
                (try simp only [hbo])
                (try simp only [gd])
                (try simp only [hwj])
                (try simp only [w2, hjb, if_true, Int.toNat_natCast])
                (try simp only [n8])
                (try simp only [n0])
                try with_reducible rfl
              intro hHeld
              try simp only [Act.put, List.setIfInBounds_toArray, List.set_cons_zero, List.set_cons_succ]
              refine wpAnyR_take 22 rfl (by kernel_rfl) (by kernel_rfl) (by kernel_rfl) (by kernel_rfl) (fun _ _ _ h => h) (by rfl) (v := ?_) ?_ (by assumption) ?_
              rotate_left
              focus
                intro wS hSw
                (try dsimp only at hSw)
                go_simp
                (try simp only [hbo])
                (try simp only [gd])
                (try simp only [hwj])
                (try simp only [w2, hjb, if_true, Int.toNat_natCast])
                (try simp only [n8])
                (try simp only [n0])
                try with_reducible rfl
              intro hHeld
              try simp only [Act.put, List.setIfInBounds_toArray, List.set_cons_zero, List.set_cons_succ]
              refine wpAnyR_take 23 rfl (by kernel_rfl) (by kernel_rfl) (by kernel_rfl) (by kernel_rfl) (fun _ _ _ h => h) (by rfl) (v := ?_) ?_ (by assumption) ?_
              rotate_left
              focus
                intro wS hSw
                (try dsimp only at hSw)
                go_simp
                (try simp only [hbo])
                (try simp only [gd])
                (try simp only [hwj])
                (try simp only [w2, hjb, if_true, Int.toNat_natCast])
                (try simp only [n8])
                (try simp only [n0])
                try with_reducible rfl
              intro hHeld
              try simp only [Act.put, List.setIfInBounds_toArray, List.set_cons_zero, List.set_cons_succ]
              refine wpAnyR_take 24 rfl (by kernel_rfl) (by kernel_rfl) (by kernel_rfl) (by kernel_rfl) (fun _ _ _ h => h) (by rfl) (v := ?_) ?_ (by assumption) ?_
              rotate_left
              focus
                intro wS hSw
                (try dsimp only at hSw)
                go_simp
                (try simp only [hbo])
                (try simp only [gd])
                (try simp only [hwj])
                (try simp only [w2, hjb, if_true, Int.toNat_natCast])
                (try simp only [n8])
                (try simp only [n0])
                try with_reducible rfl
              intro hHeld
              try simp only [Act.put, List.setIfInBounds_toArray, List.set_cons_zero, List.set_cons_succ]
              refine wpAnyR_take 25 rfl (by kernel_rfl) (by kernel_rfl) (by kernel_rfl) (by kernel_rfl) (fun _ _ _ h => h) (by rfl) (v := ?_) ?_ (by assumption) ?_
              rotate_left
              focus
                intro wS hSw
                (try dsimp only at hSw)
                go_simp
                (try simp only [hbo])
                (try simp only [gd])
                (try simp only [hwj])
                (try simp only [w2, hjb, if_true, Int.toNat_natCast])
                (try simp only [n8])
                (try simp only [n0])
                try with_reducible rfl
              intro hHeld
              try simp only [Act.put, List.setIfInBounds_toArray, List.set_cons_zero, List.set_cons_succ]
              by_cases h8 : kk = 8
              · subst h8
                rw [if_neg (fun h => absurd rfl h.2.2.1)] at hm
                subst hm
                refine wpAnyR_take 26 rfl (by kernel_rfl) (by kernel_rfl) (by kernel_rfl) (by kernel_rfl) (fun _ _ _ h => h) (by rfl) (v := ?_) ?_ (by assumption) ?_
                rotate_left
                focus
                  intro wS hSw
                  (try dsimp only at hSw)
                  go_simp
                  (try simp only [hbo])
                  (try simp only [gd])
                  (try simp only [hwj])
                  (try simp only [w2, hjb, if_true, Int.toNat_natCast])
                  (try simp only [n8])
                  (try simp only [n0])
                  try with_reducible rfl
                intro hHeld
                try simp only [Act.put, List.setIfInBounds_toArray, List.set_cons_zero, List.set_cons_succ]
                refine wpAnyR_take 27 rfl (by kernel_rfl) (by kernel_rfl) (by kernel_rfl) (by kernel_rfl) (fun _ _ _ h => h) (by rfl) (v := ?_) ?_ (by assumption) ?_
                rotate_left
                focus
                  intro wS hSw
                  (try dsimp only at hSw)
                  go_simp
                  (try simp only [hbo])
                  (try simp only [gd])
                  (try simp only [hwj])
                  (try simp only [w2, hjb, if_true, Int.toNat_natCast])
                  (try simp only [n8])
                  (try simp only [n0])
                  try with_reducible rfl
                intro hHeld
                try simp only [Act.put, List.setIfInBounds_toArray, List.set_cons_zero, List.set_cons_succ]
                refine wpAnyR_skip 28 rfl (by kernel_rfl) (by kernel_rfl) (by kernel_rfl) (by kernel_rfl) (fun _ _ _ h => h) (by rfl) (by assumption) ?_
                intro hHeld
                try simp only [Act.put, List.setIfInBounds_toArray, List.set_cons_zero, List.set_cons_succ]
                refine wpAnyR_skip 29 rfl (by kernel_rfl) (by kernel_rfl) (by kernel_rfl) (by kernel_rfl) (fun _ _ _ h => h) (by rfl) (by assumption) ?_
                intro hHeld
                try simp only [Act.put, List.setIfInBounds_toArray, List.set_cons_zero, List.set_cons_succ]
                refine wpAnyR_skip 30 rfl (by kernel_rfl) (by kernel_rfl) (by kernel_rfl) (by kernel_rfl) (fun _ _ _ h => h) (by rfl) (by assumption) ?_
                intro hHeld
                try simp only [Act.put, List.setIfInBounds_toArray, List.set_cons_zero, List.set_cons_succ]
                refine wpAnyR_skip 31 rfl (by kernel_rfl) (by kernel_rfl) (by kernel_rfl) (by kernel_rfl) (fun _ _ _ h => h) (by rfl) (by assumption) ?_
                intro hHeld
                try simp only [Act.put, List.setIfInBounds_toArray, List.set_cons_zero, List.set_cons_succ]
                refine wpAnyR_take 32 rfl (by kernel_rfl) (by kernel_rfl) (by kernel_rfl) (by kernel_rfl) (fun _ _ _ h => h) (by rfl) (v := ?_) ?_ (by assumption) ?_
                rotate_left
                focus
                  intro wS hSw
                  (try dsimp only at hSw)
                  go_simp
                  (try simp only [hbo])
                  (try simp only [gd])
                  (try simp only [hwj])
                  (try simp only [w2, hjb, if_true, Int.toNat_natCast])
                  (try simp only [n8])
                  (try simp only [n0])
                  try with_reducible rfl
                intro hHeld
                try simp only [Act.put, List.setIfInBounds_toArray, List.set_cons_zero, List.set_cons_succ]
                refine wpAnyR_take 33 rfl (by kernel_rfl) (by kernel_rfl) (by kernel_rfl) (by kernel_rfl) (fun _ _ _ h => h) (by rfl) (v := ?_) ?_ (by assumption) ?_
                rotate_left
                focus
                  intro wS hSw
                  (try dsimp only at hSw)
                  go_simp
                  (try simp only [hbo])
                  (try simp only [gd])
                  (try simp only [hwj])
                  (try simp only [w2, hjb, if_true, Int.toNat_natCast])
                  (try simp only [n8])
                  (try simp only [n0])
                  try with_reducible rfl
                intro hHeld
                try simp only [Act.put, List.setIfInBounds_toArray, List.set_cons_zero, List.set_cons_succ]
                refine wpAnyR_skip 34 rfl (by kernel_rfl) (by kernel_rfl) (by kernel_rfl) (by kernel_rfl) (fun _ _ _ h => h) (by rfl) (by assumption) ?_
                intro hHeld
                try simp only [Act.put, List.setIfInBounds_toArray, List.set_cons_zero, List.set_cons_succ]
                refine wpAnyR_skip 35 rfl (by kernel_rfl) (by kernel_rfl) (by kernel_rfl) (by kernel_rfl) (fun _ _ _ h => h) (by rfl) (by assumption) ?_
                intro hHeld
                try simp only [Act.put, List.setIfInBounds_toArray, List.set_cons_zero, List.set_cons_succ]
                refine wpAnyR_skip 36 rfl (by kernel_rfl) (by kernel_rfl) (by kernel_rfl) (by kernel_rfl) (fun _ _ _ h => h) (by rfl) (by assumption) ?_
                intro hHeld
                try simp only [Act.put, List.setIfInBounds_toArray, List.set_cons_zero, List.set_cons_succ]
                refine wpAnyR_skip 37 rfl (by kernel_rfl) (by kernel_rfl) (by kernel_rfl) (by kernel_rfl) (fun _ _ _ h => h) (by rfl) (by assumption) ?_
                intro hHeld
                try simp only [Act.put, List.setIfInBounds_toArray, List.set_cons_zero, List.set_cons_succ]
                refine wpAnyR_skip 38 rfl (by kernel_rfl) (by kernel_rfl) (by kernel_rfl) (by kernel_rfl) (fun _ _ _ h => h) (by rfl) (by assumption) ?_
                intro hHeld
                try simp only [Act.put, List.setIfInBounds_toArray, List.set_cons_zero, List.set_cons_succ]
                refine wpAnyR_skip 39 rfl (by kernel_rfl) (by kernel_rfl) (by kernel_rfl) (by kernel_rfl) (fun _ _ _ h => h) (by rfl) (by assumption) ?_
                intro hHeld
                try simp only [Act.put, List.setIfInBounds_toArray, List.set_cons_zero, List.set_cons_succ]
                refine wpAnyR_take 40 rfl (by kernel_rfl) (by kernel_rfl) (by kernel_rfl) (by kernel_rfl) (fun _ _ _ h => h) (by rfl) (v := ?_) ?_ (by assumption) ?_
                rotate_left
                focus
                  intro wS hSw
                  (try dsimp only at hSw)
                  go_simp
                  (try simp only [hbo])
                  (try simp only [gd])
                  (try simp only [hwj])
                  (try simp only [w2, hjb, if_true, Int.toNat_natCast])
                  (try simp only [n8])
                  (try simp only [n0])
                  try with_reducible rfl
                intro hHeld
                try simp only [Act.put, List.setIfInBounds_toArray, List.set_cons_zero, List.set_cons_succ]
                refine wpAnyR_done (by kernel_rfl) ?_
                refine NoPanic.normal ?_
                go_wp2_with fail
                go_ret
                exact ⟨rfl, HLO6.out _ HB7.out⟩
              · have n8 : (kk == 8) = false := beq_eq_false_iff_ne.2 h8
                refine wpAnyR_take 26 rfl (by kernel_rfl) (by kernel_rfl) (by kernel_rfl) (by kernel_rfl) (fun _ _ _ h => h) (by rfl) (v := ?_) ?_ (by assumption) ?_
                rotate_left
                focus
                  intro wS hSw
                  (try dsimp only at hSw)
                  go_simp
                  (try simp only [hbo])
                  (try simp only [gd])
                  (try simp only [hwj])
                  (try simp only [w2, hjb, if_true, Int.toNat_natCast])
                  (try simp only [n8])
                  (try simp only [n0])
                  try with_reducible rfl
                intro hHeld
                try simp only [Act.put, List.setIfInBounds_toArray, List.set_cons_zero, List.set_cons_succ]
                refine wpAnyR_take 27 rfl (by kernel_rfl) (by kernel_rfl) (by kernel_rfl) (by kernel_rfl) (fun _ _ _ h => h) (by rfl) (v := ?_) ?_ (by assumption) ?_
                rotate_left
                focus
                  intro wS hSw
                  (try dsimp only at hSw)
                  go_simp
                  (try simp only [hbo])
                  (try simp only [gd])
                  (try simp only [hwj])
                  (try simp only [w2, hjb, if_true, Int.toNat_natCast])
                  (try simp only [n8])
                  (try simp only [n0])
                  try with_reducible rfl
                intro hHeld
                try simp only [Act.put, List.setIfInBounds_toArray, List.set_cons_zero, List.set_cons_succ]
                refine wpAnyR_take 28 rfl (by kernel_rfl) (by kernel_rfl) (by kernel_rfl) (by kernel_rfl) (fun _ _ _ h => h) (by rfl) (v := ?_) ?_ (by assumption) ?_
                rotate_left
                focus
                  intro wS hSw
                  (try dsimp only at hSw)
                  go_simp
                  (try simp only [hbo])
                  (try simp only [gd])
                  (try simp only [hwj])
                  (try simp only [w2, hjb, if_true, Int.toNat_natCast])
                  (try simp only [n8])
                  (try simp only [n0])
                  try with_reducible rfl
                intro hHeld
                try simp only [Act.put, List.setIfInBounds_toArray, List.set_cons_zero, List.set_cons_succ]
                refine wpAnyR_take 29 rfl (by kernel_rfl) (by kernel_rfl) (by kernel_rfl) (by kernel_rfl) (fun _ _ _ h => h) (by rfl) (v := ?_) ?_ (by assumption) ?_
                rotate_left
                focus
                  intro wS hSw
                  (try dsimp only at hSw)
                  go_simp
                  (try simp only [hbo])
                  (try simp only [gd])
                  (try simp only [hwj])
                  (try simp only [w2, hjb, if_true, Int.toNat_natCast])
                  (try simp only [n8])
                  (try simp only [n0])
                  try with_reducible rfl
                intro hHeld
                try simp only [Act.put, List.setIfInBounds_toArray, List.set_cons_zero, List.set_cons_succ]
                refine wpAnyR_take 30 rfl (by kernel_rfl) (by kernel_rfl) (by kernel_rfl) (by kernel_rfl) (fun _ _ _ h => h) (by rfl) (v := ?_) ?_ (by assumption) ?_
                rotate_left
                focus
                  intro wS hSw
                  (try dsimp only at hSw)
                  go_simp
                  (try simp only [hbo])
                  (try simp only [gd])
                  (try simp only [hwj])
                  (try simp only [w2, hjb, if_true, Int.toNat_natCast])
                  (try simp only [n8])
                  (try simp only [n0])
                  try with_reducible rfl
                intro hHeld
                try simp only [Act.put, List.setIfInBounds_toArray, List.set_cons_zero, List.set_cons_succ]
                refine wpAnyR_take 31 rfl (by kernel_rfl) (by kernel_rfl) (by kernel_rfl) (by kernel_rfl) (fun _ _ _ h => h) (by rfl) (v := ?_) ?_ (by assumption) ?_
                rotate_left
                focus
                  intro wS hSw
                  (try dsimp only at hSw)
                  go_simp
                  (try simp only [hbo])
                  (try simp only [gd])
                  (try simp only [hwj])
                  (try simp only [w2, hjb, if_true, Int.toNat_natCast])
                  (try simp only [n8])
                  (try simp only [n0])
                  try with_reducible rfl
                intro hHeld
                try simp only [Act.put, List.setIfInBounds_toArray, List.set_cons_zero, List.set_cons_succ]
                by_cases h0 : kk = 0
                · subst h0
                  rw [if_neg (fun h => absurd rfl h.2.2.2.1)] at hm
                  subst hm
                  refine wpAnyR_take 32 rfl (by kernel_rfl) (by kernel_rfl) (by kernel_rfl) (by kernel_rfl) (fun _ _ _ h => h) (by rfl) (v := ?_) ?_ (by assumption) ?_
                  rotate_left
                  focus
                    intro wS hSw
                    (try dsimp only at hSw)
                    go_simp
                    (try simp only [hbo])
                    (try simp only [gd])
                    (try simp only [hwj])
                    (try simp only [w2, hjb, if_true, Int.toNat_natCast])
                    (try simp only [n8])
                    (try simp only [n0])
                    try with_reducible rfl
                  intro hHeld
                  try simp only [Act.put, List.setIfInBounds_toArray, List.set_cons_zero, List.set_cons_succ]
                  refine wpAnyR_take 33 rfl (by kernel_rfl) (by kernel_rfl) (by kernel_rfl) (by kernel_rfl) (fun _ _ _ h => h) (by rfl) (v := ?_) ?_ (by assumption) ?_
                  rotate_left
                  focus
                    intro wS hSw
                    (try dsimp only at hSw)
                    go_simp
                    (try simp only [hbo])
                    (try simp only [gd])
                    (try simp only [hwj])
                    (try simp only [w2, hjb, if_true, Int.toNat_natCast])
                    (try simp only [n8])
                    (try simp only [n0])
                    try with_reducible rfl
                  intro hHeld
                  try simp only [Act.put, List.setIfInBounds_toArray, List.set_cons_zero, List.set_cons_succ]
                  refine wpAnyR_skip 34 rfl (by kernel_rfl) (by kernel_rfl) (by kernel_rfl) (by kernel_rfl) (fun _ _ _ h => h) (by rfl) (by assumption) ?_
                  intro hHeld
                  try simp only [Act.put, List.setIfInBounds_toArray, List.set_cons_zero, List.set_cons_succ]
                  refine wpAnyR_skip 35 rfl (by kernel_rfl) (by kernel_rfl) (by kernel_rfl) (by kernel_rfl) (fun _ _ _ h => h) (by rfl) (by assumption) ?_
                  intro hHeld
                  try simp only [Act.put, List.setIfInBounds_toArray, List.set_cons_zero, List.set_cons_succ]
                  refine wpAnyR_skip 36 rfl (by kernel_rfl) (by kernel_rfl) (by kernel_rfl) (by kernel_rfl) (fun _ _ _ h => h) (by rfl) (by assumption) ?_
                  intro hHeld
                  try simp only [Act.put, List.setIfInBounds_toArray, List.set_cons_zero, List.set_cons_succ]
                  refine wpAnyR_skip 37 rfl (by kernel_rfl) (by kernel_rfl) (by kernel_rfl) (by kernel_rfl) (fun _ _ _ h => h) (by rfl) (by assumption) ?_
                  intro hHeld
                  try simp only [Act.put, List.setIfInBounds_toArray, List.set_cons_zero, List.set_cons_succ]
                  refine wpAnyR_skip 38 rfl (by kernel_rfl) (by kernel_rfl) (by kernel_rfl) (by kernel_rfl) (fun _ _ _ h => h) (by rfl) (by assumption) ?_
                  intro hHeld
                  try simp only [Act.put, List.setIfInBounds_toArray, List.set_cons_zero, List.set_cons_succ]
                  refine wpAnyR_skip 39 rfl (by kernel_rfl) (by kernel_rfl) (by kernel_rfl) (by kernel_rfl) (fun _ _ _ h => h) (by rfl) (by assumption) ?_
                  intro hHeld
                  try simp only [Act.put, List.setIfInBounds_toArray, List.set_cons_zero, List.set_cons_succ]
                  refine wpAnyR_take 40 rfl (by kernel_rfl) (by kernel_rfl) (by kernel_rfl) (by kernel_rfl) (fun _ _ _ h => h) (by rfl) (v := ?_) ?_ (by assumption) ?_
                  rotate_left
                  focus
                    intro wS hSw
                    (try dsimp only at hSw)
                    go_simp
                    (try simp only [hbo])
                    (try simp only [gd])
                    (try simp only [hwj])
                    (try simp only [w2, hjb, if_true, Int.toNat_natCast])
                    (try simp only [n8])
                    (try simp only [n0])
                    try with_reducible rfl
                  intro hHeld
                  try simp only [Act.put, List.setIfInBounds_toArray, List.set_cons_zero, List.set_cons_succ]
                  refine wpAnyR_done (by kernel_rfl) ?_
                  refine NoPanic.normal ?_
                  go_wp2_with fail
                  go_ret
                  exact ⟨rfl, HLO6.out _ HB7.out⟩
                · have n0 : (kk == 0) = false := beq_eq_false_iff_ne.2 h0
                  refine wpAnyR_take 32 rfl (by kernel_rfl) (by kernel_rfl) (by kernel_rfl) (by kernel_rfl) (fun _ _ _ h => h) (by rfl) (v := ?_) ?_ (by assumption) ?_
                  rotate_left
                  focus
                    intro wS hSw
                    (try dsimp only at hSw)
                    go_simp
                    (try simp only [hbo])
                    (try simp only [gd])
                    (try simp only [hwj])
                    (try simp only [w2, hjb, if_true, Int.toNat_natCast])
                    (try simp only [n8])
                    (try simp only [n0])
                    try with_reducible rfl
                  intro hHeld
                  try simp only [Act.put, List.setIfInBounds_toArray, List.set_cons_zero, List.set_cons_succ]
                  refine wpAnyR_take 33 rfl (by kernel_rfl) (by kernel_rfl) (by kernel_rfl) (by kernel_rfl) (fun _ _ _ h => h) (by rfl) (v := ?_) ?_ (by assumption) ?_
                  rotate_left
                  focus
                    intro wS hSw
                    (try dsimp only at hSw)
                    go_simp
                    (try simp only [hbo])
                    (try simp only [gd])
                    (try simp only [hwj])
                    (try simp only [w2, hjb, if_true, Int.toNat_natCast])
                    (try simp only [n8])
                    (try simp only [n0])
                    try with_reducible rfl
                  intro hHeld
                  try simp only [Act.put, List.setIfInBounds_toArray, List.set_cons_zero, List.set_cons_succ]
                  refine wpAnyR_take 34 rfl (by kernel_rfl) (by kernel_rfl) (by kernel_rfl) (by kernel_rfl) (fun _ _ _ h => h) (by rfl) (v := ?_) ?_ (by assumption) ?_
                  rotate_left
                  focus
                    intro wS hSw
                    (try dsimp only at hSw)
                    go_simp
                    (try simp only [hbo])
                    (try simp only [gd])
                    (try simp only [hwj])
                    (try simp only [w2, hjb, if_true, Int.toNat_natCast])
                    (try simp only [n8])
                    (try simp only [n0])
                    try with_reducible rfl
                  intro hHeld
                  try simp only [Act.put, List.setIfInBounds_toArray, List.set_cons_zero, List.set_cons_succ]
                  refine wpAnyR_take 35 rfl (by kernel_rfl) (by kernel_rfl) (by kernel_rfl) (by kernel_rfl) (fun _ _ _ h => h) (by rfl) (v := ?_) ?_ (by assumption) ?_
                  rotate_left
                  focus
                    intro wS hSw
                    (try dsimp only at hSw)
                    go_simp
                    (try simp only [hbo])
                    (try simp only [gd])
                    (try simp only [hwj])
                    (try simp only [w2, hjb, if_true, Int.toNat_natCast])
                    (try simp only [n8])
                    (try simp only [n0])
                    try with_reducible rfl
                  intro hHeld
                  try simp only [Act.put, List.setIfInBounds_toArray, List.set_cons_zero, List.set_cons_succ]
                  refine wpAnyR_take 36 rfl (by kernel_rfl) (by kernel_rfl) (by kernel_rfl) (by kernel_rfl) (fun _ _ _ h => h) (by rfl) (v := ?_) ?_ (by assumption) ?_
                  rotate_left
                  focus
                    intro wS hSw
                    (try dsimp only at hSw)
                    go_simp
                    (try simp only [hbo])
                    (try simp only [gd])
                    (try simp only [hwj])
                    (try simp only [w2, hjb, if_true, Int.toNat_natCast])
                    (try simp only [n8])
                    (try simp only [n0])
                    try with_reducible rfl
                  intro hHeld
                  try simp only [Act.put, List.setIfInBounds_toArray, List.set_cons_zero, List.set_cons_succ]
                  refine wpAnyR_take 37 rfl (by kernel_rfl) (by kernel_rfl) (by kernel_rfl) (by kernel_rfl) (fun _ _ _ h => h) (by rfl) (v := ?_) ?_ (by assumption) ?_
                  rotate_left
                  focus
                    intro wS hSw
                    (try dsimp only at hSw)
                    go_simp
                    (try simp only [hbo])
                    (try simp only [gd])
                    (try simp only [hwj])
                    (try simp only [w2, hjb, if_true, Int.toNat_natCast])
                    (try simp only [n8])
                    (try simp only [n0])
                    try with_reducible rfl
                  intro hHeld
                  try simp only [Act.put, List.setIfInBounds_toArray, List.set_cons_zero, List.set_cons_succ]
                  refine wpAnyR_step 38 rfl (by kernel_rfl) (fun K hK => ?_)
                  go_simp
                  go_at_call 62
                  refine (HI.out _ HB7.out).mono ?_
                  rintro r w4 ⟨rfl, hb4⟩
                  have HB8 := Lib.hid (HB7.out.trans (hb4.mono HB7.out.size))
                  clear hb4
                  go_wp2_with fail
                  refine hK.out _ _ (HEN.out _ HB8.out) (fun hHeld => ?_)
                  clear hK K
                  try simp only [Act.put, List.setIfInBounds_toArray, List.set_cons_zero, List.set_cons_succ]
                  cases V
                  · rw [if_neg (fun h => by cases h.2.2.2.2)] at hm
                    subst hm
                    refine wpAnyR_take 39 rfl (by kernel_rfl) (by kernel_rfl) (by kernel_rfl) (by kernel_rfl) (fun _ _ _ h => h) (by rfl) (v := ?_) ?_ (by assumption) ?_
                    rotate_left
                    focus
                      intro wS hSw
                      (try dsimp only at hSw)
                      go_simp
                      (try simp only [hbo])
                      (try simp only [gd])
                      (try simp only [hwj])
                      (try simp only [w2, hjb, if_true, Int.toNat_natCast])
                      (try simp only [n8])
                      (try simp only [n0])
                      try with_reducible rfl
                    intro hHeld
                    try simp only [Act.put, List.setIfInBounds_toArray, List.set_cons_zero, List.set_cons_succ]
                    refine wpAnyR_take 40 rfl (by kernel_rfl) (by kernel_rfl) (by kernel_rfl) (by kernel_rfl) (fun _ _ _ h => h) (by rfl) (v := ?_) ?_ (by assumption) ?_
                    rotate_left
                    focus
                      intro wS hSw
                      (try dsimp only at hSw)
                      go_simp
                      (try simp only [hbo])
                      (try simp only [gd])
                      (try simp only [hwj])
                      (try simp only [w2, hjb, if_true, Int.toNat_natCast])
                      (try simp only [n8])
                      (try simp only [n0])
                      try with_reducible rfl
                    intro hHeld
                    try simp only [Act.put, List.setIfInBounds_toArray, List.set_cons_zero, List.set_cons_succ]
                    refine wpAnyR_done (by kernel_rfl) ?_
                    refine NoPanic.normal ?_
                    go_wp2_with fail
                    go_ret
                    exact ⟨rfl, HLO6.out _ HB8.out⟩
                  · rw [if_pos ⟨by trivial, hpk, h8, h0, by trivial⟩] at hm
                    have hM2 := Lib.hid hm
                    clear hm
                    refine wpAnyR_take 39 rfl (by kernel_rfl) (by kernel_rfl) (by kernel_rfl) (by kernel_rfl) (fun _ _ _ h => h) (by rfl) (v := ?_) ?_ (by assumption) ?_
                    rotate_left
                    focus
                      intro wS hSw
                      (try dsimp only at hSw)
                      go_simp
                      (try simp only [hbo])
                      (try simp only [gd])
                      (try simp only [hwj])
                      (try simp only [w2, hjb, if_true, Int.toNat_natCast])
                      (try simp only [n8])
                      (try simp only [n0])
                      try with_reducible rfl
                    intro hHeld
                    try simp only [Act.put, List.setIfInBounds_toArray, List.set_cons_zero, List.set_cons_succ]
                    refine wpAnyR_take 40 rfl (by kernel_rfl) (by kernel_rfl) (by kernel_rfl) (by kernel_rfl) (fun _ _ _ h => h) (by rfl) (v := ?_) ?_ (by assumption) ?_
                    rotate_left
                    focus
                      intro wS hSw
                      (try dsimp only at hSw)
                      go_simp
                      (try simp only [hbo])
                      (try simp only [gd])
                      (try simp only [hwj])
                      (try simp only [w2, hjb, if_true, Int.toNat_natCast])
                      (try simp only [n8])
                      (try simp only [n0])
                      try with_reducible rfl
                    intro hHeld
                    try simp only [Act.put, List.setIfInBounds_toArray, List.set_cons_zero, List.set_cons_succ]
                    refine wpAnyR_done (by kernel_rfl) ?_
                    refine NoPanic.normal ?_
                    go_wp2_with fail
                    go_roundw
                    case rel => exact ⟨i + 1, by omega, by go_num, by rw [HPK.out]; exact hM2, Lib.hid (HLW.out _ HB8.out)⟩
                    case measure => simp [intOf]; omega
            · obtain ⟨p, yp, hp, hpw⟩ := HPR.out (by omega)
              obtain ⟨j, hj⟩ : ∃ j, i - 1 = j := ⟨_, rfl⟩
              rw [hj] at hp hpw
              have gd : decide (0 < i) = true := decide_eq_true (by omega)
              have hij : (i : Int) - 1 = j := by omega
              have hwj : IntKind.i64.wrap ((i : Int) - 1) = j := by rw [hij]; exact IntWalk.i64_in _ (by omega)
              have w2 : IntKind.i64.wrap (j : Int) = j := IntWalk.i64_in _ (by omega)
              have hjb : (0 ≤ (j : Int) ∧ (j : Int) < (DD : Int)) = True := eq_true ⟨by omega, by omega⟩
              have hjd : (j : Int) < DD := by omega
              have hpk : prevK d i = some p := by
                obtain rfl : i = j + 1 := by omega
                rw [prevK, hp]; rfl
              have HEN : Hid (∀ W, Below W6.heap.size W6 W → W.cell? ⟨w.heap.size, 4, none⟩ = some (.slice (some ⟨g, o, none⟩) DD cD) ∧ W.cell? ⟨wr.heap.size, 0, none⟩ = some (.string sy) ∧ W.cell? ⟨wr.heap.size, 1, none⟩ = some (.int .i64 kk) ∧ W.cell? ⟨wr.heap.size, 2, none⟩ = some (.int .i64 e1) ∧ W.cell? ⟨wr.heap.size, 3, none⟩ = some (.slice A2 m2 r2) ∧ W.cell? ⟨wr.heap.size, 4, none⟩ = some (.slice A3 m3 r3) ∧ W.cell? ⟨wr.heap.size, 5, none⟩ = some (.slice A4 m4 r4) ∧ W.cell? ⟨g, o + j * 6, none⟩ = some (.string p)) := Lib.hid (fun W hW => by
                obtain ⟨q0, q1, q2, q3, q4, q5, q6⟩ := HE0.out W hW
                exact ⟨q0, q1, q2, q3, q4, q5, q6, hpw W hW⟩)
              clear hi0 hp hpw hj
              by_cases hB : leS sy p = true
              · have hbo : ∀ W, (binOp BinOp.leq 9 (.string sy) (.string p)).run Tryz.prog W = .ok (.bool true) W := fun W => by rw [run_leS, hB]
                rw [if_neg (fun h => by have h2 := h.2.1 p hpk; rw [hB] at h2; cases h2)] at hm
                subst hm
                clear hB hpk
                go_upto_region 7 with fail
                rw [HW6.out]
                refine wp_region_heldR (fun w' => w'.cell? ⟨w.heap.size, 4, none⟩ = some (.slice (some ⟨g, o, none⟩) DD cD) ∧ w'.cell? ⟨wr.heap.size, 0, none⟩ = some (.string sy) ∧ w'.cell? ⟨wr.heap.size, 1, none⟩ = some (.int .i64 kk) ∧ w'.cell? ⟨wr.heap.size, 2, none⟩ = some (.int .i64 e1) ∧ w'.cell? ⟨wr.heap.size, 3, none⟩ = some (.slice A2 m2 r2) ∧ w'.cell? ⟨wr.heap.size, 4, none⟩ = some (.slice A3 m3 r3) ∧ w'.cell? ⟨wr.heap.size, 5, none⟩ = some (.slice A4 m4 r4) ∧ w'.cell? ⟨g, o + j * 6, none⟩ = some (.string p)) 1000 (by kernel_rfl) (HEN.out _ HB6d.out) (fun hHeld => ?_)
                refine wpAnyR_take 0 rfl (by kernel_rfl) (by kernel_rfl) (by kernel_rfl) (by kernel_rfl) (fun _ _ _ h => h) (by rfl) (v := ?_) ?_ (by assumption) ?_
                rotate_left
                focus
                  intro wS hSw
                  (try dsimp only at hSw)
                  go_simp
                  (try simp only [hbo])
                  (try simp only [gd])
                  (try simp only [hwj])
                  (try simp only [w2, hjb, if_true, Int.toNat_natCast])
                  (try simp only [n8])
                  (try simp only [n0])
                  try with_reducible rfl
                intro hHeld
                try simp only [Act.put, List.setIfInBounds_toArray, List.set_cons_zero, List.set_cons_succ]
                refine wpAnyR_take 1 rfl (by kernel_rfl) (by kernel_rfl) (by kernel_rfl) (by kernel_rfl) (fun _ _ _ h => h) (by rfl) (v := ?_) ?_ (by assumption) ?_
                rotate_left
                focus
                  intro wS hSw
                  (try dsimp only at hSw)
                  go_simp
                  (try simp only [hbo])
                  (try simp only [gd])
                  (try simp only [hwj])
                  (try simp only [w2, hjb, if_true, Int.toNat_natCast])
                  (try simp only [n8])
                  (try simp only [n0])
                  try with_reducible rfl
                intro hHeld
                try simp only [Act.put, List.setIfInBounds_toArray, List.set_cons_zero, List.set_cons_succ]
                refine wpAnyR_step 2 rfl (by kernel_rfl) (fun K hK => ?_)
                go_simp
                refine hK.out _ _ (HEN.out _ HB7.out) (fun hHeld => ?_)
                clear hK K
                try simp only [Act.put, List.setIfInBounds_toArray, List.set_cons_zero, List.set_cons_succ]
                refine wpAnyR_step 3 rfl (by kernel_rfl) (fun K hK => ?_)
                go_simp
                go_at_call 105
                refine HNM.out.mono ?_
                rintro r w3 ⟨rfl, rfl⟩
                go_wp2_with fail
                refine hK.out _ _ (HEN.out _ HB7.out) (fun hHeld => ?_)
                clear hK K
                try simp only [Act.put, List.setIfInBounds_toArray, List.set_cons_zero, List.set_cons_succ]
                refine wpAnyR_take 4 rfl (by kernel_rfl) (by kernel_rfl) (by kernel_rfl) (by kernel_rfl) (fun _ _ _ h => h) (by rfl) (v := ?_) ?_ (by assumption) ?_
                rotate_left
                focus
                  intro wS hSw
                  (try dsimp only at hSw)
                  go_simp
                  (try simp only [hbo])
                  (try simp only [gd])
                  (try simp only [hwj])
                  (try simp only [w2, hjb, if_true, Int.toNat_natCast])
                  (try simp only [n8])
                  (try simp only [n0])
                  try with_reducible rfl
                intro hHeld
                try simp only [Act.put, List.setIfInBounds_toArray, List.set_cons_zero, List.set_cons_succ]
                refine wpAnyR_take 5 rfl (by kernel_rfl) (by kernel_rfl) (by kernel_rfl) (by kernel_rfl) (fun _ _ _ h => h) (by rfl) (v := ?_) ?_ (by assumption) ?_
                rotate_left
                focus
                  intro wS hSw
                  (try dsimp only at hSw)
                  go_simp
                  (try simp only [hbo])
                  (try simp only [gd])
                  (try simp only [hwj])
                  (try simp only [w2, hjb, if_true, Int.toNat_natCast])
                  (try simp only [n8])
                  (try simp only [n0])
                  try with_reducible rfl
                intro hHeld
                try simp only [Act.put, List.setIfInBounds_toArray, List.set_cons_zero, List.set_cons_succ]
                refine wpAnyR_take 6 rfl (by kernel_rfl) (by kernel_rfl) (by kernel_rfl) (by kernel_rfl) (fun _ _ _ h => h) (by rfl) (v := ?_) ?_ (by assumption) ?_
                rotate_left
                focus
                  intro wS hSw
                  (try dsimp only at hSw)
                  go_simp
                  (try simp only [hbo])
                  (try simp only [gd])
                  (try simp only [hwj])
                  (try simp only [w2, hjb, if_true, Int.toNat_natCast])
                  (try simp only [n8])
                  (try simp only [n0])
                  try with_reducible rfl
                intro hHeld
                try simp only [Act.put, List.setIfInBounds_toArray, List.set_cons_zero, List.set_cons_succ]
                refine wpAnyR_take 7 rfl (by kernel_rfl) (by kernel_rfl) (by kernel_rfl) (by kernel_rfl) (fun _ _ _ h => h) (by rfl) (v := ?_) ?_ (by assumption) ?_
                rotate_left
                focus
                  intro wS hSw
                  (try dsimp only at hSw)
                  go_simp
                  (try simp only [hbo])
                  (try simp only [gd])
                  (try simp only [hwj])
                  (try simp only [w2, hjb, if_true, Int.toNat_natCast])
                  (try simp only [n8])
                  (try simp only [n0])
                  try with_reducible rfl
                intro hHeld
                try simp only [Act.put, List.setIfInBounds_toArray, List.set_cons_zero, List.set_cons_succ]
                refine wpAnyR_take 8 rfl (by kernel_rfl) (by kernel_rfl) (by kernel_rfl) (by kernel_rfl) (fun _ _ _ h => h) (by rfl) (v := ?_) ?_ (by assumption) ?_
                rotate_left
                focus
                  intro wS hSw
                  (try dsimp only at hSw)
                  go_simp
                  (try simp only [hbo])
                  (try simp only [gd])
                  (try simp only [hwj])
                  (try simp only [w2, hjb, if_true, Int.toNat_natCast])
                  (try simp only [n8])
                  (try simp only [n0])
                  try with_reducible rfl
                intro hHeld
                try simp only [Act.put, List.setIfInBounds_toArray, List.set_cons_zero, List.set_cons_succ]
                refine wpAnyR_take 9 rfl (by kernel_rfl) (by kernel_rfl) (by kernel_rfl) (by kernel_rfl) (fun _ _ _ h => h) (by rfl) (v := ?_) ?_ (by assumption) ?_
                rotate_left
                focus
                  intro wS hSw
                  (try dsimp only at hSw)
                  go_simp
                  (try simp only [hbo])
                  (try simp only [gd])
                  (try simp only [hwj])
                  (try simp only [w2, hjb, if_true, Int.toNat_natCast])
                  (try simp only [n8])
                  (try simp only [n0])
                  try with_reducible rfl
                intro hHeld
                try simp only [Act.put, List.setIfInBounds_toArray, List.set_cons_zero, List.set_cons_succ]
                refine wpAnyR_take 10 rfl (by kernel_rfl) (by kernel_rfl) (by kernel_rfl) (by kernel_rfl) (fun _ _ _ h => h) (by rfl) (v := ?_) ?_ (by assumption) ?_
                rotate_left
                focus
                  intro wS hSw
                  (try dsimp only at hSw)
                  go_simp
                  (try simp only [hbo])
                  (try simp only [gd])
                  (try simp only [hwj])
                  (try simp only [w2, hjb, if_true, Int.toNat_natCast])
                  (try simp only [n8])
                  (try simp only [n0])
                  try with_reducible rfl
                intro hHeld
                try simp only [Act.put, List.setIfInBounds_toArray, List.set_cons_zero, List.set_cons_succ]
                refine wpAnyR_take 11 rfl (by kernel_rfl) (by kernel_rfl) (by kernel_rfl) (by kernel_rfl) (fun _ _ _ h => h) (by rfl) (v := ?_) ?_ (by assumption) ?_
                rotate_left
                focus
                  intro wS hSw
                  (try dsimp only at hSw)
                  go_simp
                  (try simp only [hbo])
                  (try simp only [gd])
                  (try simp only [hwj])
                  (try simp only [w2, hjb, if_true, Int.toNat_natCast])
                  (try simp only [n8])
                  (try simp only [n0])
                  try with_reducible rfl
                intro hHeld
                try simp only [Act.put, List.setIfInBounds_toArray, List.set_cons_zero, List.set_cons_succ]
                refine wpAnyR_take 12 rfl (by kernel_rfl) (by kernel_rfl) (by kernel_rfl) (by kernel_rfl) (fun _ _ _ h => h) (by rfl) (v := ?_) ?_ (by assumption) ?_
                rotate_left
                focus
                  intro wS hSw
                  (try dsimp only at hSw)
                  go_simp
                  (try simp only [hbo])
                  (try simp only [gd])
                  (try simp only [hwj])
                  (try simp only [w2, hjb, if_true, Int.toNat_natCast])
                  (try simp only [n8])
                  (try simp only [n0])
                  try with_reducible rfl
                intro hHeld
                try simp only [Act.put, List.setIfInBounds_toArray, List.set_cons_zero, List.set_cons_succ]
                refine wpAnyR_take 13 rfl (by kernel_rfl) (by kernel_rfl) (by kernel_rfl) (by kernel_rfl) (fun _ _ _ h => h) (by rfl) (v := ?_) ?_ (by assumption) ?_
                rotate_left
                focus
                  intro wS hSw
                  (try dsimp only at hSw)
                  go_simp
                  (try simp only [hbo])
                  (try simp only [gd])
                  (try simp only [hwj])
                  (try simp only [w2, hjb, if_true, Int.toNat_natCast])
                  (try simp only [n8])
                  (try simp only [n0])
                  try with_reducible rfl
                intro hHeld
                try simp only [Act.put, List.setIfInBounds_toArray, List.set_cons_zero, List.set_cons_succ]
                refine wpAnyR_take 14 rfl (by kernel_rfl) (by kernel_rfl) (by kernel_rfl) (by kernel_rfl) (fun _ _ _ h => h) (by rfl) (v := ?_) ?_ (by assumption) ?_
                rotate_left
                focus
                  intro wS hSw
                  (try dsimp only at hSw)
                  go_simp
                  (try simp only [hbo])
                  (try simp only [gd])
                  (try simp only [hwj])
                  (try simp only [w2, hjb, if_true, Int.toNat_natCast])
                  (try simp only [n8])
                  (try simp only [n0])
                  try with_reducible rfl
                intro hHeld
                try simp only [Act.put, List.setIfInBounds_toArray, List.set_cons_zero, List.set_cons_succ]
                refine wpAnyR_take 15 rfl (by kernel_rfl) (by kernel_rfl) (by kernel_rfl) (by kernel_rfl) (fun _ _ _ h => h) (by rfl) (v := ?_) ?_ (by assumption) ?_
                rotate_left
                focus
                  intro wS hSw
                  (try dsimp only at hSw)
                  go_simp
                  (try simp only [hbo])
                  (try simp only [gd])
                  (try simp only [hwj])
                  (try simp only [w2, hjb, if_true, Int.toNat_natCast])
                  (try simp only [n8])
                  (try simp only [n0])
                  try with_reducible rfl
                intro hHeld
                try simp only [Act.put, List.setIfInBounds_toArray, List.set_cons_zero, List.set_cons_succ]
                refine wpAnyR_take 16 rfl (by kernel_rfl) (by kernel_rfl) (by kernel_rfl) (by kernel_rfl) (fun _ _ _ h => h) (by rfl) (v := ?_) ?_ (by assumption) ?_
                rotate_left
                focus
                  intro wS hSw
                  (try dsimp only at hSw)
                  go_simp
                  (try simp only [hbo])
                  (try simp only [gd])
                  (try simp only [hwj])
                  (try simp only [w2, hjb, if_true, Int.toNat_natCast])
                  (try simp only [n8])
                  (try simp only [n0])
                  try with_reducible rfl
                intro hHeld
                try simp only [Act.put, List.setIfInBounds_toArray, List.set_cons_zero, List.set_cons_succ]
                refine wpAnyR_take 17 rfl (by kernel_rfl) (by kernel_rfl) (by kernel_rfl) (by kernel_rfl) (fun _ _ _ h => h) (by rfl) (v := ?_) ?_ (by assumption) ?_
                rotate_left
                focus
                  intro wS hSw
                  (try dsimp only at hSw)
                  go_simp
                  (try simp only [hbo])
                  (try simp only [gd])
                  (try simp only [hwj])
                  (try simp only [w2, hjb, if_true, Int.toNat_natCast])
                  (try simp only [n8])
                  (try simp only [n0])
                  try with_reducible rfl
                intro hHeld
                try simp only [Act.put, List.setIfInBounds_toArray, List.set_cons_zero, List.set_cons_succ]
                refine wpAnyR_take 18 rfl (by kernel_rfl) (by kernel_rfl) (by kernel_rfl) (by kernel_rfl) (fun _ _ _ h => h) (by rfl) (v := ?_) ?_ (by assumption) ?_
                rotate_left
                focus
                  intro wS hSw
                  (try dsimp only at hSw)
                  go_simp
                  (try simp only [hbo])
                  (try simp only [gd])
                  (try simp only [hwj])
                  (try simp only [w2, hjb, if_true, Int.toNat_natCast])
                  (try simp only [n8])
                  (try simp only [n0])
                  try with_reducible rfl
                intro hHeld
                try simp only [Act.put, List.setIfInBounds_toArray, List.set_cons_zero, List.set_cons_succ]
                refine wpAnyR_take 19 rfl (by kernel_rfl) (by kernel_rfl) (by kernel_rfl) (by kernel_rfl) (fun _ _ _ h => h) (by rfl) (v := ?_) ?_ (by assumption) ?_
                rotate_left
                focus
                  intro wS hSw
                  (try dsimp only at hSw)
                  go_simp
                  (try simp only [hbo])
                  (try simp only [gd])
                  (try simp only [hwj])
                  (try simp only [w2, hjb, if_true, Int.toNat_natCast])
                  (try simp only [n8])
                  (try simp only [n0])
                  try with_reducible rfl
                intro hHeld
                try simp only [Act.put, List.setIfInBounds_toArray, List.set_cons_zero, List.set_cons_succ]
                refine wpAnyR_take 20 rfl (by kernel_rfl) (by kernel_rfl) (by kernel_rfl) (by kernel_rfl) (fun _ _ _ h => h) (by rfl) (v := ?_) ?_ (by assumption) ?_
                rotate_left
                focus
                  intro wS hSw
                  (try dsimp only at hSw)
                  go_simp
                  (try simp only [hbo])
                  (try simp only [gd])
                  (try simp only [hwj])
                  (try simp only [w2, hjb, if_true, Int.toNat_natCast])
                  (try simp only [n8])
                  (try simp only [n0])
                  try with_reducible rfl
                intro hHeld
                try simp only [Act.put, List.setIfInBounds_toArray, List.set_cons_zero, List.set_cons_succ]
                refine wpAnyR_take 21 rfl (by kernel_rfl) (by kernel_rfl) (by kernel_rfl) (by kernel_rfl) (fun _ _ _ h => h) (by rfl) (v := ?_) ?_ (by assumption) ?_
                rotate_left
                focus
                  intro wS hSw
                  (try dsimp only at hSw)
                  go_simp
                  (try simp only [hbo])
                  (try simp only [gd])
                  (try simp only [hwj])
                  (try simp only [w2, hjb, if_true, Int.toNat_natCast])
                  (try simp only [n8])
                  (try simp only [n0])
                  try with_reducible rfl
                intro hHeld
                try simp only [Act.put, List.setIfInBounds_toArray, List.set_cons_zero, List.set_cons_succ]
                refine wpAnyR_skip 22 rfl (by kernel_rfl) (by kernel_rfl) (by kernel_rfl) (by kernel_rfl) (fun _ _ _ h => h) (by rfl) (by assumption) ?_
                intro hHeld
                try simp only [Act.put, List.setIfInBounds_toArray, List.set_cons_zero, List.set_cons_succ]
                refine wpAnyR_skip 23 rfl (by kernel_rfl) (by kernel_rfl) (by kernel_rfl) (by kernel_rfl) (fun _ _ _ h => h) (by rfl) (by assumption) ?_
                intro hHeld
                try simp only [Act.put, List.setIfInBounds_toArray, List.set_cons_zero, List.set_cons_succ]
                refine wpAnyR_skip 24 rfl (by kernel_rfl) (by kernel_rfl) (by kernel_rfl) (by kernel_rfl) (fun _ _ _ h => h) (by rfl) (by assumption) ?_
                intro hHeld
                try simp only [Act.put, List.setIfInBounds_toArray, List.set_cons_zero, List.set_cons_succ]
                refine wpAnyR_skip 25 rfl (by kernel_rfl) (by kernel_rfl) (by kernel_rfl) (by kernel_rfl) (fun _ _ _ h => h) (by rfl) (by assumption) ?_
                intro hHeld
                try simp only [Act.put, List.setIfInBounds_toArray, List.set_cons_zero, List.set_cons_succ]
                refine wpAnyR_take 26 rfl (by kernel_rfl) (by kernel_rfl) (by kernel_rfl) (by kernel_rfl) (fun _ _ _ h => h) (by rfl) (v := ?_) ?_ (by assumption) ?_
                rotate_left
                focus
                  intro wS hSw
                  (try dsimp only at hSw)
                  go_simp
                  (try simp only [hbo])
                  (try simp only [gd])
                  (try simp only [hwj])
                  (try simp only [w2, hjb, if_true, Int.toNat_natCast])
                  (try simp only [n8])
                  (try simp only [n0])
                  try with_reducible rfl
                intro hHeld
                try simp only [Act.put, List.setIfInBounds_toArray, List.set_cons_zero, List.set_cons_succ]
                refine wpAnyR_take 27 rfl (by kernel_rfl) (by kernel_rfl) (by kernel_rfl) (by kernel_rfl) (fun _ _ _ h => h) (by rfl) (v := ?_) ?_ (by assumption) ?_
                rotate_left
                focus
                  intro wS hSw
                  (try dsimp only at hSw)
                  go_simp
                  (try simp only [hbo])
                  (try simp only [gd])
                  (try simp only [hwj])
                  (try simp only [w2, hjb, if_true, Int.toNat_natCast])
                  (try simp only [n8])
                  (try simp only [n0])
                  try with_reducible rfl
                intro hHeld
                try simp only [Act.put, List.setIfInBounds_toArray, List.set_cons_zero, List.set_cons_succ]
                refine wpAnyR_skip 28 rfl (by kernel_rfl) (by kernel_rfl) (by kernel_rfl) (by kernel_rfl) (fun _ _ _ h => h) (by rfl) (by assumption) ?_
                intro hHeld
                try simp only [Act.put, List.setIfInBounds_toArray, List.set_cons_zero, List.set_cons_succ]
                refine wpAnyR_skip 29 rfl (by kernel_rfl) (by kernel_rfl) (by kernel_rfl) (by kernel_rfl) (fun _ _ _ h => h) (by rfl) (by assumption) ?_
                intro hHeld
                try simp only [Act.put, List.setIfInBounds_toArray, List.set_cons_zero, List.set_cons_succ]
                refine wpAnyR_skip 30 rfl (by kernel_rfl) (by kernel_rfl) (by kernel_rfl) (by kernel_rfl) (fun _ _ _ h => h) (by rfl) (by assumption) ?_
                intro hHeld
                try simp only [Act.put, List.setIfInBounds_toArray, List.set_cons_zero, List.set_cons_succ]
                refine wpAnyR_skip 31 rfl (by kernel_rfl) (by kernel_rfl) (by kernel_rfl) (by kernel_rfl) (fun _ _ _ h => h) (by rfl) (by assumption) ?_
                intro hHeld
                try simp only [Act.put, List.setIfInBounds_toArray, List.set_cons_zero, List.set_cons_succ]
                refine wpAnyR_take 32 rfl (by kernel_rfl) (by kernel_rfl) (by kernel_rfl) (by kernel_rfl) (fun _ _ _ h => h) (by rfl) (v := ?_) ?_ (by assumption) ?_
                rotate_left
                focus
                  intro wS hSw
                  (try dsimp only at hSw)
                  go_simp
                  (try simp only [hbo])
                  (try simp only [gd])
                  (try simp only [hwj])
                  (try simp only [w2, hjb, if_true, Int.toNat_natCast])
                  (try simp only [n8])
                  (try simp only [n0])
                  try with_reducible rfl
                intro hHeld
                try simp only [Act.put, List.setIfInBounds_toArray, List.set_cons_zero, List.set_cons_succ]
                refine wpAnyR_take 33 rfl (by kernel_rfl) (by kernel_rfl) (by kernel_rfl) (by kernel_rfl) (fun _ _ _ h => h) (by rfl) (v := ?_) ?_ (by assumption) ?_
                rotate_left
                focus
                  intro wS hSw
                  (try dsimp only at hSw)
                  go_simp
                  (try simp only [hbo])
                  (try simp only [gd])
                  (try simp only [hwj])
                  (try simp only [w2, hjb, if_true, Int.toNat_natCast])
                  (try simp only [n8])
                  (try simp only [n0])
                  try with_reducible rfl
                intro hHeld
                try simp only [Act.put, List.setIfInBounds_toArray, List.set_cons_zero, List.set_cons_succ]
                refine wpAnyR_skip 34 rfl (by kernel_rfl) (by kernel_rfl) (by kernel_rfl) (by kernel_rfl) (fun _ _ _ h => h) (by rfl) (by assumption) ?_
                intro hHeld
                try simp only [Act.put, List.setIfInBounds_toArray, List.set_cons_zero, List.set_cons_succ]
                refine wpAnyR_skip 35 rfl (by kernel_rfl) (by kernel_rfl) (by kernel_rfl) (by kernel_rfl) (fun _ _ _ h => h) (by rfl) (by assumption) ?_
                intro hHeld
                try simp only [Act.put, List.setIfInBounds_toArray, List.set_cons_zero, List.set_cons_succ]
                refine wpAnyR_skip 36 rfl (by kernel_rfl) (by kernel_rfl) (by kernel_rfl) (by kernel_rfl) (fun _ _ _ h => h) (by rfl) (by assumption) ?_
                intro hHeld
                try simp only [Act.put, List.setIfInBounds_toArray, List.set_cons_zero, List.set_cons_succ]
                refine wpAnyR_skip 37 rfl (by kernel_rfl) (by kernel_rfl) (by kernel_rfl) (by kernel_rfl) (fun _ _ _ h => h) (by rfl) (by assumption) ?_
                intro hHeld
                try simp only [Act.put, List.setIfInBounds_toArray, List.set_cons_zero, List.set_cons_succ]
                refine wpAnyR_skip 38 rfl (by kernel_rfl) (by kernel_rfl) (by kernel_rfl) (by kernel_rfl) (fun _ _ _ h => h) (by rfl) (by assumption) ?_
                intro hHeld
                try simp only [Act.put, List.setIfInBounds_toArray, List.set_cons_zero, List.set_cons_succ]
                refine wpAnyR_skip 39 rfl (by kernel_rfl) (by kernel_rfl) (by kernel_rfl) (by kernel_rfl) (fun _ _ _ h => h) (by rfl) (by assumption) ?_
                intro hHeld
                try simp only [Act.put, List.setIfInBounds_toArray, List.set_cons_zero, List.set_cons_succ]
                refine wpAnyR_take 40 rfl (by kernel_rfl) (by kernel_rfl) (by kernel_rfl) (by kernel_rfl) (fun _ _ _ h => h) (by rfl) (v := ?_) ?_ (by assumption) ?_
                rotate_left
                focus
                  intro wS hSw
                  (try dsimp only at hSw)
                  go_simp
                  (try simp only [hbo])
                  (try simp only [gd])
                  (try simp only [hwj])
                  (try simp only [w2, hjb, if_true, Int.toNat_natCast])
                  (try simp only [n8])
                  (try simp only [n0])
                  try with_reducible rfl
                intro hHeld
                try simp only [Act.put, List.setIfInBounds_toArray, List.set_cons_zero, List.set_cons_succ]
                refine wpAnyR_done (by kernel_rfl) ?_
                refine NoPanic.normal ?_
                go_wp2_with fail
                go_ret
                exact ⟨rfl, HLO6.out _ HB7.out⟩
              · have hB2 : leS sy p = false := Bool.eq_false_iff.2 hB
                have hbo : ∀ W, (binOp BinOp.leq 9 (.string sy) (.string p)).run Tryz.prog W = .ok (.bool false) W := fun W => by rw [run_leS, hB2]
                have hpq : ∀ q, prevK d i = some q → leS sy q = false := fun q h => by rw [hpk] at h; injection h with h; rw [← h]; exact hB2
                clear hB hpk hB2
                go_upto_region 7 with fail
                rw [HW6.out]
                refine wp_region_heldR (fun w' => w'.cell? ⟨w.heap.size, 4, none⟩ = some (.slice (some ⟨g, o, none⟩) DD cD) ∧ w'.cell? ⟨wr.heap.size, 0, none⟩ = some (.string sy) ∧ w'.cell? ⟨wr.heap.size, 1, none⟩ = some (.int .i64 kk) ∧ w'.cell? ⟨wr.heap.size, 2, none⟩ = some (.int .i64 e1) ∧ w'.cell? ⟨wr.heap.size, 3, none⟩ = some (.slice A2 m2 r2) ∧ w'.cell? ⟨wr.heap.size, 4, none⟩ = some (.slice A3 m3 r3) ∧ w'.cell? ⟨wr.heap.size, 5, none⟩ = some (.slice A4 m4 r4) ∧ w'.cell? ⟨g, o + j * 6, none⟩ = some (.string p)) 1000 (by kernel_rfl) (HEN.out _ HB6d.out) (fun hHeld => ?_)
                refine wpAnyR_take 0 rfl (by kernel_rfl) (by kernel_rfl) (by kernel_rfl) (by kernel_rfl) (fun _ _ _ h => h) (by rfl) (v := ?_) ?_ (by assumption) ?_
                rotate_left
                focus
                  intro wS hSw
                  (try dsimp only at hSw)
                  go_simp
                  (try simp only [hbo])
                  (try simp only [gd])
                  (try simp only [hwj])
                  (try simp only [w2, hjb, if_true, Int.toNat_natCast])
                  (try simp only [n8])
                  (try simp only [n0])
                  try with_reducible rfl
                intro hHeld
                try simp only [Act.put, List.setIfInBounds_toArray, List.set_cons_zero, List.set_cons_succ]
                refine wpAnyR_take 1 rfl (by kernel_rfl) (by kernel_rfl) (by kernel_rfl) (by kernel_rfl) (fun _ _ _ h => h) (by rfl) (v := ?_) ?_ (by assumption) ?_
                rotate_left
                focus
                  intro wS hSw
                  (try dsimp only at hSw)
                  go_simp
                  (try simp only [hbo])
                  (try simp only [gd])
                  (try simp only [hwj])
                  (try simp only [w2, hjb, if_true, Int.toNat_natCast])
                  (try simp only [n8])
                  (try simp only [n0])
                  try with_reducible rfl
                intro hHeld
                try simp only [Act.put, List.setIfInBounds_toArray, List.set_cons_zero, List.set_cons_succ]
                refine wpAnyR_step 2 rfl (by kernel_rfl) (fun K hK => ?_)
                go_simp
                refine hK.out _ _ (HEN.out _ HB7.out) (fun hHeld => ?_)
                clear hK K
                try simp only [Act.put, List.setIfInBounds_toArray, List.set_cons_zero, List.set_cons_succ]
                refine wpAnyR_step 3 rfl (by kernel_rfl) (fun K hK => ?_)
                go_simp
                go_at_call 105
                refine HNM.out.mono ?_
                rintro r w3 ⟨rfl, rfl⟩
                go_wp2_with fail
                refine hK.out _ _ (HEN.out _ HB7.out) (fun hHeld => ?_)
                clear hK K
                try simp only [Act.put, List.setIfInBounds_toArray, List.set_cons_zero, List.set_cons_succ]
                refine wpAnyR_take 4 rfl (by kernel_rfl) (by kernel_rfl) (by kernel_rfl) (by kernel_rfl) (fun _ _ _ h => h) (by rfl) (v := ?_) ?_ (by assumption) ?_
                rotate_left
                focus
                  intro wS hSw
                  (try dsimp only at hSw)
                  go_simp
                  (try simp only [hbo])
                  (try simp only [gd])
                  (try simp only [hwj])
                  (try simp only [w2, hjb, if_true, Int.toNat_natCast])
                  (try simp only [n8])
                  (try simp only [n0])
                  try with_reducible rfl
                intro hHeld
                try simp only [Act.put, List.setIfInBounds_toArray, List.set_cons_zero, List.set_cons_succ]
                refine wpAnyR_take 5 rfl (by kernel_rfl) (by kernel_rfl) (by kernel_rfl) (by kernel_rfl) (fun _ _ _ h => h) (by rfl) (v := ?_) ?_ (by assumption) ?_
                rotate_left
                focus
                  intro wS hSw
                  (try dsimp only at hSw)
                  go_simp
                  (try simp only [hbo])
                  (try simp only [gd])
                  (try simp only [hwj])
                  (try simp only [w2, hjb, if_true, Int.toNat_natCast])
                  (try simp only [n8])
                  (try simp only [n0])
                  try with_reducible rfl
                intro hHeld
                try simp only [Act.put, List.setIfInBounds_toArray, List.set_cons_zero, List.set_cons_succ]
                refine wpAnyR_take 6 rfl (by kernel_rfl) (by kernel_rfl) (by kernel_rfl) (by kernel_rfl) (fun _ _ _ h => h) (by rfl) (v := ?_) ?_ (by assumption) ?_
                rotate_left
                focus
                  intro wS hSw
                  (try dsimp only at hSw)
                  go_simp
                  (try simp only [hbo])
                  (try simp only [gd])
                  (try simp only [hwj])
                  (try simp only [w2, hjb, if_true, Int.toNat_natCast])
                  (try simp only [n8])
                  (try simp only [n0])
                  try with_reducible rfl
                intro hHeld
                try simp only [Act.put, List.setIfInBounds_toArray, List.set_cons_zero, List.set_cons_succ]
                refine wpAnyR_take 7 rfl (by kernel_rfl) (by kernel_rfl) (by kernel_rfl) (by kernel_rfl) (fun _ _ _ h => h) (by rfl) (v := ?_) ?_ (by assumption) ?_
                rotate_left
                focus
                  intro wS hSw
                  (try dsimp only at hSw)
                  go_simp
                  (try simp only [hbo])
                  (try simp only [gd])
                  (try simp only [hwj])
                  (try simp only [w2, hjb, if_true, Int.toNat_natCast])
                  (try simp only [n8])
                  (try simp only [n0])
                  try with_reducible rfl
                intro hHeld
                try simp only [Act.put, List.setIfInBounds_toArray, List.set_cons_zero, List.set_cons_succ]
                refine wpAnyR_take 8 rfl (by kernel_rfl) (by kernel_rfl) (by kernel_rfl) (by kernel_rfl) (fun _ _ _ h => h) (by rfl) (v := ?_) ?_ (by assumption) ?_
                rotate_left
                focus
                  intro wS hSw
                  (try dsimp only at hSw)
                  go_simp
                  (try simp only [hbo])
                  (try simp only [gd])
                  (try simp only [hwj])
                  (try simp only [w2, hjb, if_true, Int.toNat_natCast])
                  (try simp only [n8])
                  (try simp only [n0])
                  try with_reducible rfl
                intro hHeld
                try simp only [Act.put, List.setIfInBounds_toArray, List.set_cons_zero, List.set_cons_succ]
                refine wpAnyR_take 9 rfl (by kernel_rfl) (by kernel_rfl) (by kernel_rfl) (by kernel_rfl) (fun _ _ _ h => h) (by rfl) (v := ?_) ?_ (by assumption) ?_
                rotate_left
                focus
                  intro wS hSw
                  (try dsimp only at hSw)
                  go_simp
                  (try simp only [hbo])
                  (try simp only [gd])
                  (try simp only [hwj])
                  (try simp only [w2, hjb, if_true, Int.toNat_natCast])
                  (try simp only [n8])
                  (try simp only [n0])
                  try with_reducible rfl
                intro hHeld
                try simp only [Act.put, List.setIfInBounds_toArray, List.set_cons_zero, List.set_cons_succ]
                refine wpAnyR_take 10 rfl (by kernel_rfl) (by kernel_rfl) (by kernel_rfl) (by kernel_rfl) (fun _ _ _ h => h) (by rfl) (v := ?_) ?_ (by assumption) ?_
                rotate_left
                focus
                  intro wS hSw
                  (try dsimp only at hSw)
                  go_simp
                  (try simp only [hbo])
                  (try simp only [gd])
                  (try simp only [hwj])
                  (try simp only [w2, hjb, if_true, Int.toNat_natCast])
                  (try simp only [n8])
                  (try simp only [n0])
                  try with_reducible rfl
                intro hHeld
                try simp only [Act.put, List.setIfInBounds_toArray, List.set_cons_zero, List.set_cons_succ]
                refine wpAnyR_take 11 rfl (by kernel_rfl) (by kernel_rfl) (by kernel_rfl) (by kernel_rfl) (fun _ _ _ h => h) (by rfl) (v := ?_) ?_ (by assumption) ?_
                rotate_left
                focus
                  intro wS hSw
                  (try dsimp only at hSw)
                  go_simp
                  (try simp only [hbo])
                  (try simp only [gd])
                  (try simp only [hwj])
                  (try simp only [w2, hjb, if_true, Int.toNat_natCast])
                  (try simp only [n8])
                  (try simp only [n0])
                  try with_reducible rfl
                intro hHeld
                try simp only [Act.put, List.setIfInBounds_toArray, List.set_cons_zero, List.set_cons_succ]
                refine wpAnyR_take 12 rfl (by kernel_rfl) (by kernel_rfl) (by kernel_rfl) (by kernel_rfl) (fun _ _ _ h => h) (by rfl) (v := ?_) ?_ (by assumption) ?_
                rotate_left
                focus
                  intro wS hSw
                  (try dsimp only at hSw)
                  go_simp
                  (try simp only [hbo])
                  (try simp only [gd])
                  (try simp only [hwj])
                  (try simp only [w2, hjb, if_true, Int.toNat_natCast])
                  (try simp only [n8])
                  (try simp only [n0])
                  try with_reducible rfl
                intro hHeld
                try simp only [Act.put, List.setIfInBounds_toArray, List.set_cons_zero, List.set_cons_succ]
                refine wpAnyR_take 13 rfl (by kernel_rfl) (by kernel_rfl) (by kernel_rfl) (by kernel_rfl) (fun _ _ _ h => h) (by rfl) (v := ?_) ?_ (by assumption) ?_
                rotate_left
                focus
                  intro wS hSw
                  (try dsimp only at hSw)
                  go_simp
                  (try simp only [hbo])
                  (try simp only [gd])
                  (try simp only [hwj])
                  (try simp only [w2, hjb, if_true, Int.toNat_natCast])
                  (try simp only [n8])
                  (try simp only [n0])
                  try with_reducible rfl
                intro hHeld
                try simp only [Act.put, List.setIfInBounds_toArray, List.set_cons_zero, List.set_cons_succ]
                refine wpAnyR_take 14 rfl (by kernel_rfl) (by kernel_rfl) (by kernel_rfl) (by kernel_rfl) (fun _ _ _ h => h) (by rfl) (v := ?_) ?_ (by assumption) ?_
                rotate_left
                focus
                  intro wS hSw
                  (try dsimp only at hSw)
                  go_simp
                  (try simp only [hbo])
                  (try simp only [gd])
                  (try simp only [hwj])
                  (try simp only [w2, hjb, if_true, Int.toNat_natCast])
                  (try simp only [n8])
                  (try simp only [n0])
                  try with_reducible rfl
                intro hHeld
                try simp only [Act.put, List.setIfInBounds_toArray, List.set_cons_zero, List.set_cons_succ]
                refine wpAnyR_take 15 rfl (by kernel_rfl) (by kernel_rfl) (by kernel_rfl) (by kernel_rfl) (fun _ _ _ h => h) (by rfl) (v := ?_) ?_ (by assumption) ?_
                rotate_left
                focus
                  intro wS hSw
                  (try dsimp only at hSw)
                  go_simp
                  (try simp only [hbo])
                  (try simp only [gd])
                  (try simp only [hwj])
                  (try simp only [w2, hjb, if_true, Int.toNat_natCast])
                  (try simp only [n8])
                  (try simp only [n0])
                  try with_reducible rfl
                intro hHeld
                try simp only [Act.put, List.setIfInBounds_toArray, List.set_cons_zero, List.set_cons_succ]
                refine wpAnyR_take 16 rfl (by kernel_rfl) (by kernel_rfl) (by kernel_rfl) (by kernel_rfl) (fun _ _ _ h => h) (by rfl) (v := ?_) ?_ (by assumption) ?_
                rotate_left
                focus
                  intro wS hSw
                  (try dsimp only at hSw)
                  go_simp
                  (try simp only [hbo])
                  (try simp only [gd])
                  (try simp only [hwj])
                  (try simp only [w2, hjb, if_true, Int.toNat_natCast])
                  (try simp only [n8])
                  (try simp only [n0])
                  try with_reducible rfl
                intro hHeld
                try simp only [Act.put, List.setIfInBounds_toArray, List.set_cons_zero, List.set_cons_succ]
                refine wpAnyR_take 17 rfl (by kernel_rfl) (by kernel_rfl) (by kernel_rfl) (by kernel_rfl) (fun _ _ _ h => h) (by rfl) (v := ?_) ?_ (by assumption) ?_
                rotate_left
                focus
                  intro wS hSw
                  (try dsimp only at hSw)
                  go_simp
                  (try simp only [hbo])
                  (try simp only [gd])
                  (try simp only [hwj])
                  (try simp only [w2, hjb, if_true, Int.toNat_natCast])
                  (try simp only [n8])
                  (try simp only [n0])
                  try with_reducible rfl
                intro hHeld
                try simp only [Act.put, List.setIfInBounds_toArray, List.set_cons_zero, List.set_cons_succ]
                refine wpAnyR_take 18 rfl (by kernel_rfl) (by kernel_rfl) (by kernel_rfl) (by kernel_rfl) (fun _ _ _ h => h) (by rfl) (v := ?_) ?_ (by assumption) ?_
                rotate_left
                focus
                  intro wS hSw
                  (try dsimp only at hSw)
                  go_simp
                  (try simp only [hbo])
                  (try simp only [gd])
                  (try simp only [hwj])
                  (try simp only [w2, hjb, if_true, Int.toNat_natCast])
                  (try simp only [n8])
                  (try simp only [n0])
                  try with_reducible rfl
                intro hHeld
                try simp only [Act.put, List.setIfInBounds_toArray, List.set_cons_zero, List.set_cons_succ]
                refine wpAnyR_take 19 rfl (by kernel_rfl) (by kernel_rfl) (by kernel_rfl) (by kernel_rfl) (fun _ _ _ h => h) (by rfl) (v := ?_) ?_ (by assumption) ?_
                rotate_left
                focus
                  intro wS hSw
                  (try dsimp only at hSw)
                  go_simp
                  (try simp only [hbo])
                  (try simp only [gd])
                  (try simp only [hwj])
                  (try simp only [w2, hjb, if_true, Int.toNat_natCast])
                  (try simp only [n8])
                  (try simp only [n0])
                  try with_reducible rfl
                intro hHeld
                try simp only [Act.put, List.setIfInBounds_toArray, List.set_cons_zero, List.set_cons_succ]
                refine wpAnyR_take 20 rfl (by kernel_rfl) (by kernel_rfl) (by kernel_rfl) (by kernel_rfl) (fun _ _ _ h => h) (by rfl) (v := ?_) ?_ (by assumption) ?_
                rotate_left
                focus
                  intro wS hSw
                  (try dsimp only at hSw)
                  go_simp
                  (try simp only [hbo])
                  (try simp only [gd])
                  (try simp only [hwj])
                  (try simp only [w2, hjb, if_true, Int.toNat_natCast])
                  (try simp only [n8])
                  (try simp only [n0])
                  try with_reducible rfl
                intro hHeld
                try simp only [Act.put, List.setIfInBounds_toArray, List.set_cons_zero, List.set_cons_succ]
                refine wpAnyR_take 21 rfl (by kernel_rfl) (by kernel_rfl) (by kernel_rfl) (by kernel_rfl) (fun _ _ _ h => h) (by rfl) (v := ?_) ?_ (by assumption) ?_
                rotate_left
                focus
                  intro wS hSw
                  (try dsimp only at hSw)
                  go_simp
                  (try simp only [hbo])
                  (try simp only [gd])
                  (try simp only [hwj])
                  (try simp only [w2, hjb, if_true, Int.toNat_natCast])
                  (try simp only [n8])
                  (try simp only [n0])
                  try with_reducible rfl
                intro hHeld
                try simp only [Act.put, List.setIfInBounds_toArray, List.set_cons_zero, List.set_cons_succ]
                refine wpAnyR_take 22 rfl (by kernel_rfl) (by kernel_rfl) (by kernel_rfl) (by kernel_rfl) (fun _ _ _ h => h) (by rfl) (v := ?_) ?_ (by assumption) ?_
                rotate_left
                focus
                  intro wS hSw
                  (try dsimp only at hSw)
                  go_simp
                  (try simp only [hbo])
                  (try simp only [gd])
                  (try simp only [hwj])
                  (try simp only [w2, hjb, if_true, Int.toNat_natCast])
                  (try simp only [n8])
                  (try simp only [n0])
                  try with_reducible rfl
                intro hHeld
                try simp only [Act.put, List.setIfInBounds_toArray, List.set_cons_zero, List.set_cons_succ]
                refine wpAnyR_take 23 rfl (by kernel_rfl) (by kernel_rfl) (by kernel_rfl) (by kernel_rfl) (fun _ _ _ h => h) (by rfl) (v := ?_) ?_ (by assumption) ?_
                rotate_left
                focus
                  intro wS hSw
                  (try dsimp only at hSw)
                  go_simp
                  (try simp only [hbo])
                  (try simp only [gd])
                  (try simp only [hwj])
                  (try simp only [w2, hjb, if_true, Int.toNat_natCast])
                  (try simp only [n8])
                  (try simp only [n0])
                  try with_reducible rfl
                intro hHeld
                try simp only [Act.put, List.setIfInBounds_toArray, List.set_cons_zero, List.set_cons_succ]
                refine wpAnyR_take 24 rfl (by kernel_rfl) (by kernel_rfl) (by kernel_rfl) (by kernel_rfl) (fun _ _ _ h => h) (by rfl) (v := ?_) ?_ (by assumption) ?_
                rotate_left
                focus
                  intro wS hSw
                  (try dsimp only at hSw)
                  go_simp
                  (try simp only [hbo])
                  (try simp only [gd])
                  (try simp only [hwj])
                  (try simp only [w2, hjb, if_true, Int.toNat_natCast])
                  (try simp only [n8])
                  (try simp only [n0])
                  try with_reducible rfl
                intro hHeld
                try simp only [Act.put, List.setIfInBounds_toArray, List.set_cons_zero, List.set_cons_succ]
                refine wpAnyR_take 25 rfl (by kernel_rfl) (by kernel_rfl) (by kernel_rfl) (by kernel_rfl) (fun _ _ _ h => h) (by rfl) (v := ?_) ?_ (by assumption) ?_
                rotate_left
                focus
                  intro wS hSw
                  (try dsimp only at hSw)
                  go_simp
                  (try simp only [hbo])
                  (try simp only [gd])
                  (try simp only [hwj])
                  (try simp only [w2, hjb, if_true, Int.toNat_natCast])
                  (try simp only [n8])
                  (try simp only [n0])
                  try with_reducible rfl
                intro hHeld
                try simp only [Act.put, List.setIfInBounds_toArray, List.set_cons_zero, List.set_cons_succ]
                by_cases h8 : kk = 8
                · subst h8
                  rw [if_neg (fun h => absurd rfl h.2.2.1)] at hm
                  subst hm
                  refine wpAnyR_take 26 rfl (by kernel_rfl) (by kernel_rfl) (by kernel_rfl) (by kernel_rfl) (fun _ _ _ h => h) (by rfl) (v := ?_) ?_ (by assumption) ?_
                  rotate_left
                  focus
                    intro wS hSw
                    (try dsimp only at hSw)
                    go_simp
                    (try simp only [hbo])
                    (try simp only [gd])
                    (try simp only [hwj])
                    (try simp only [w2, hjb, if_true, Int.toNat_natCast])
                    (try simp only [n8])
                    (try simp only [n0])
                    try with_reducible rfl
                  intro hHeld
                  try simp only [Act.put, List.setIfInBounds_toArray, List.set_cons_zero, List.set_cons_succ]
                  refine wpAnyR_take 27 rfl (by kernel_rfl) (by kernel_rfl) (by kernel_rfl) (by kernel_rfl) (fun _ _ _ h => h) (by rfl) (v := ?_) ?_ (by assumption) ?_
                  rotate_left
                  focus
                    intro wS hSw
                    (try dsimp only at hSw)
                    go_simp
                    (try simp only [hbo])
                    (try simp only [gd])
                    (try simp only [hwj])
                    (try simp only [w2, hjb, if_true, Int.toNat_natCast])
                    (try simp only [n8])
                    (try simp only [n0])
                    try with_reducible rfl
                  intro hHeld
                  try simp only [Act.put, List.setIfInBounds_toArray, List.set_cons_zero, List.set_cons_succ]
                  refine wpAnyR_skip 28 rfl (by kernel_rfl) (by kernel_rfl) (by kernel_rfl) (by kernel_rfl) (fun _ _ _ h => h) (by rfl) (by assumption) ?_
                  intro hHeld
                  try simp only [Act.put, List.setIfInBounds_toArray, List.set_cons_zero, List.set_cons_succ]
                  refine wpAnyR_skip 29 rfl (by kernel_rfl) (by kernel_rfl) (by kernel_rfl) (by kernel_rfl) (fun _ _ _ h => h) (by rfl) (by assumption) ?_
                  intro hHeld
                  try simp only [Act.put, List.setIfInBounds_toArray, List.set_cons_zero, List.set_cons_succ]
                  refine wpAnyR_skip 30 rfl (by kernel_rfl) (by kernel_rfl) (by kernel_rfl) (by kernel_rfl) (fun _ _ _ h => h) (by rfl) (by assumption) ?_
                  intro hHeld
                  try simp only [Act.put, List.setIfInBounds_toArray, List.set_cons_zero, List.set_cons_succ]
                  refine wpAnyR_skip 31 rfl (by kernel_rfl) (by kernel_rfl) (by kernel_rfl) (by kernel_rfl) (fun _ _ _ h => h) (by rfl) (by assumption) ?_
                  intro hHeld
                  try simp only [Act.put, List.setIfInBounds_toArray, List.set_cons_zero, List.set_cons_succ]
                  refine wpAnyR_take 32 rfl (by kernel_rfl) (by kernel_rfl) (by kernel_rfl) (by kernel_rfl) (fun _ _ _ h => h) (by rfl) (v := ?_) ?_ (by assumption) ?_
                  rotate_left
                  focus
                    intro wS hSw
                    (try dsimp only at hSw)
                    go_simp
                    (try simp only [hbo])
                    (try simp only [gd])
                    (try simp only [hwj])
                    (try simp only [w2, hjb, if_true, Int.toNat_natCast])
                    (try simp only [n8])
                    (try simp only [n0])
                    try with_reducible rfl
                  intro hHeld
                  try simp only [Act.put, List.setIfInBounds_toArray, List.set_cons_zero, List.set_cons_succ]
                  refine wpAnyR_take 33 rfl (by kernel_rfl) (by kernel_rfl) (by kernel_rfl) (by kernel_rfl) (fun _ _ _ h => h) (by rfl) (v := ?_) ?_ (by assumption) ?_
                  rotate_left
                  focus
                    intro wS hSw
                    (try dsimp only at hSw)
                    go_simp
                    (try simp only [hbo])
                    (try simp only [gd])
                    (try simp only [hwj])
                    (try simp only [w2, hjb, if_true, Int.toNat_natCast])
                    (try simp only [n8])
                    (try simp only [n0])
                    try with_reducible rfl
                  intro hHeld
                  try simp only [Act.put, List.setIfInBounds_toArray, List.set_cons_zero, List.set_cons_succ]
                  refine wpAnyR_skip 34 rfl (by kernel_rfl) (by kernel_rfl) (by kernel_rfl) (by kernel_rfl) (fun _ _ _ h => h) (by rfl) (by assumption) ?_
                  intro hHeld
                  try simp only [Act.put, List.setIfInBounds_toArray, List.set_cons_zero, List.set_cons_succ]
                  refine wpAnyR_skip 35 rfl (by kernel_rfl) (by kernel_rfl) (by kernel_rfl) (by kernel_rfl) (fun _ _ _ h => h) (by rfl) (by assumption) ?_
                  intro hHeld
                  try simp only [Act.put, List.setIfInBounds_toArray, List.set_cons_zero, List.set_cons_succ]
                  refine wpAnyR_skip 36 rfl (by kernel_rfl) (by kernel_rfl) (by kernel_rfl) (by kernel_rfl) (fun _ _ _ h => h) (by rfl) (by assumption) ?_
                  intro hHeld
                  try simp only [Act.put, List.setIfInBounds_toArray, List.set_cons_zero, List.set_cons_succ]
                  refine wpAnyR_skip 37 rfl (by kernel_rfl) (by kernel_rfl) (by kernel_rfl) (by kernel_rfl) (fun _ _ _ h => h) (by rfl) (by assumption) ?_
                  intro hHeld
                  try simp only [Act.put, List.setIfInBounds_toArray, List.set_cons_zero, List.set_cons_succ]
                  refine wpAnyR_skip 38 rfl (by kernel_rfl) (by kernel_rfl) (by kernel_rfl) (by kernel_rfl) (fun _ _ _ h => h) (by rfl) (by assumption) ?_
                  intro hHeld
                  try simp only [Act.put, List.setIfInBounds_toArray, List.set_cons_zero, List.set_cons_succ]
                  refine wpAnyR_skip 39 rfl (by kernel_rfl) (by kernel_rfl) (by kernel_rfl) (by kernel_rfl) (fun _ _ _ h => h) (by rfl) (by assumption) ?_
                  intro hHeld
                  try simp only [Act.put, List.setIfInBounds_toArray, List.set_cons_zero, List.set_cons_succ]
                  refine wpAnyR_take 40 rfl (by kernel_rfl) (by kernel_rfl) (by kernel_rfl) (by kernel_rfl) (fun _ _ _ h => h) (by rfl) (v := ?_) ?_ (by assumption) ?_
                  rotate_left
                  focus
                    intro wS hSw
                    (try dsimp only at hSw)
                    go_simp
                    (try simp only [hbo])
                    (try simp only [gd])
                    (try simp only [hwj])
                    (try simp only [w2, hjb, if_true, Int.toNat_natCast])
                    (try simp only [n8])
                    (try simp only [n0])
                    try with_reducible rfl
                  intro hHeld
                  try simp only [Act.put, List.setIfInBounds_toArray, List.set_cons_zero, List.set_cons_succ]
                  refine wpAnyR_done (by kernel_rfl) ?_
                  refine NoPanic.normal ?_
                  go_wp2_with fail
                  go_ret
                  exact ⟨rfl, HLO6.out _ HB7.out⟩
                · have n8 : (kk == 8) = false := beq_eq_false_iff_ne.2 h8
                  refine wpAnyR_take 26 rfl (by kernel_rfl) (by kernel_rfl) (by kernel_rfl) (by kernel_rfl) (fun _ _ _ h => h) (by rfl) (v := ?_) ?_ (by assumption) ?_
                  rotate_left
                  focus
                    intro wS hSw
                    (try dsimp only at hSw)
                    go_simp
                    (try simp only [hbo])
                    (try simp only [gd])
                    (try simp only [hwj])
                    (try simp only [w2, hjb, if_true, Int.toNat_natCast])
                    (try simp only [n8])
                    (try simp only [n0])
                    try with_reducible rfl
                  intro hHeld
                  try simp only [Act.put, List.setIfInBounds_toArray, List.set_cons_zero, List.set_cons_succ]
                  refine wpAnyR_take 27 rfl (by kernel_rfl) (by kernel_rfl) (by kernel_rfl) (by kernel_rfl) (fun _ _ _ h => h) (by rfl) (v := ?_) ?_ (by assumption) ?_
                  rotate_left
                  focus
                    intro wS hSw
                    (try dsimp only at hSw)
                    go_simp
                    (try simp only [hbo])
                    (try simp only [gd])
                    (try simp only [hwj])
                    (try simp only [w2, hjb, if_true, Int.toNat_natCast])
                    (try simp only [n8])
                    (try simp only [n0])
                    try with_reducible rfl
                  intro hHeld
                  try simp only [Act.put, List.setIfInBounds_toArray, List.set_cons_zero, List.set_cons_succ]
                  refine wpAnyR_take 28 rfl (by kernel_rfl) (by kernel_rfl) (by kernel_rfl) (by kernel_rfl) (fun _ _ _ h => h) (by rfl) (v := ?_) ?_ (by assumption) ?_
                  rotate_left
                  focus
                    intro wS hSw
                    (try dsimp only at hSw)
                    go_simp
                    (try simp only [hbo])
                    (try simp only [gd])
                    (try simp only [hwj])
                    (try simp only [w2, hjb, if_true, Int.toNat_natCast])
                    (try simp only [n8])
                    (try simp only [n0])
                    try with_reducible rfl
                  intro hHeld
                  try simp only [Act.put, List.setIfInBounds_toArray, List.set_cons_zero, List.set_cons_succ]
                  refine wpAnyR_take 29 rfl (by kernel_rfl) (by kernel_rfl) (by kernel_rfl) (by kernel_rfl) (fun _ _ _ h => h) (by rfl) (v := ?_) ?_ (by assumption) ?_
                  rotate_left
                  focus
                    intro wS hSw
                    (try dsimp only at hSw)
                    go_simp
                    (try simp only [hbo])
                    (try simp only [gd])
                    (try simp only [hwj])
                    (try simp only [w2, hjb, if_true, Int.toNat_natCast])
                    (try simp only [n8])
                    (try simp only [n0])
                    try with_reducible rfl
                  intro hHeld
                  try simp only [Act.put, List.setIfInBounds_toArray, List.set_cons_zero, List.set_cons_succ]
                  refine wpAnyR_take 30 rfl (by kernel_rfl) (by kernel_rfl) (by kernel_rfl) (by kernel_rfl) (fun _ _ _ h => h) (by rfl) (v := ?_) ?_ (by assumption) ?_
                  rotate_left
                  focus
                    intro wS hSw
                    (try dsimp only at hSw)
                    go_simp
                    (try simp only [hbo])
                    (try simp only [gd])
                    (try simp only [hwj])
                    (try simp only [w2, hjb, if_true, Int.toNat_natCast])
                    (try simp only [n8])
                    (try simp only [n0])
                    try with_reducible rfl
                  intro hHeld
                  try simp only [Act.put, List.setIfInBounds_toArray, List.set_cons_zero, List.set_cons_succ]
                  refine wpAnyR_take 31 rfl (by kernel_rfl) (by kernel_rfl) (by kernel_rfl) (by kernel_rfl) (fun _ _ _ h => h) (by rfl) (v := ?_) ?_ (by assumption) ?_
                  rotate_left
                  focus
                    intro wS hSw
                    (try dsimp only at hSw)
                    go_simp
                    (try simp only [hbo])
                    (try simp only [gd])
                    (try simp only [hwj])
                    (try simp only [w2, hjb, if_true, Int.toNat_natCast])
                    (try simp only [n8])
                    (try simp only [n0])
                    try with_reducible rfl
                  intro hHeld
                  try simp only [Act.put, List.setIfInBounds_toArray, List.set_cons_zero, List.set_cons_succ]
                  by_cases h0 : kk = 0
                  · subst h0
                    rw [if_neg (fun h => absurd rfl h.2.2.2.1)] at hm
                    subst hm
                    refine wpAnyR_take 32 rfl (by kernel_rfl) (by kernel_rfl) (by kernel_rfl) (by kernel_rfl) (fun _ _ _ h => h) (by rfl) (v := ?_) ?_ (by assumption) ?_
                    rotate_left
                    focus
                      intro wS hSw
                      (try dsimp only at hSw)
                      go_simp
                      (try simp only [hbo])
                      (try simp only [gd])
                      (try simp only [hwj])
                      (try simp only [w2, hjb, if_true, Int.toNat_natCast])
                      (try simp only [n8])
                      (try simp only [n0])
                      try with_reducible rfl
                    intro hHeld
                    try simp only [Act.put, List.setIfInBounds_toArray, List.set_cons_zero, List.set_cons_succ]
                    refine wpAnyR_take 33 rfl (by kernel_rfl) (by kernel_rfl) (by kernel_rfl) (by kernel_rfl) (fun _ _ _ h => h) (by rfl) (v := ?_) ?_ (by assumption) ?_
                    rotate_left
                    focus
                      intro wS hSw
                      (try dsimp only at hSw)
                      go_simp
                      (try simp only [hbo])
                      (try simp only [gd])
                      (try simp only [hwj])
                      (try simp only [w2, hjb, if_true, Int.toNat_natCast])
                      (try simp only [n8])
                      (try simp only [n0])
                      try with_reducible rfl
                    intro hHeld
                    try simp only [Act.put, List.setIfInBounds_toArray, List.set_cons_zero, List.set_cons_succ]
                    refine wpAnyR_skip 34 rfl (by kernel_rfl) (by kernel_rfl) (by kernel_rfl) (by kernel_rfl) (fun _ _ _ h => h) (by rfl) (by assumption) ?_
                    intro hHeld
                    try simp only [Act.put, List.setIfInBounds_toArray, List.set_cons_zero, List.set_cons_succ]
                    refine wpAnyR_skip 35 rfl (by kernel_rfl) (by kernel_rfl) (by kernel_rfl) (by kernel_rfl) (fun _ _ _ h => h) (by rfl) (by assumption) ?_
                    intro hHeld
                    try simp only [Act.put, List.setIfInBounds_toArray, List.set_cons_zero, List.set_cons_succ]
                    refine wpAnyR_skip 36 rfl (by kernel_rfl) (by kernel_rfl) (by kernel_rfl) (by kernel_rfl) (fun _ _ _ h => h) (by rfl) (by assumption) ?_
                    intro hHeld
                    try simp only [Act.put, List.setIfInBounds_toArray, List.set_cons_zero, List.set_cons_succ]
                    refine wpAnyR_skip 37 rfl (by kernel_rfl) (by kernel_rfl) (by kernel_rfl) (by kernel_rfl) (fun _ _ _ h => h) (by rfl) (by assumption) ?_
                    intro hHeld
                    try simp only [Act.put, List.setIfInBounds_toArray, List.set_cons_zero, List.set_cons_succ]
                    refine wpAnyR_skip 38 rfl (by kernel_rfl) (by kernel_rfl) (by kernel_rfl) (by kernel_rfl) (fun _ _ _ h => h) (by rfl) (by assumption) ?_
                    intro hHeld
                    try simp only [Act.put, List.setIfInBounds_toArray, List.set_cons_zero, List.set_cons_succ]
                    refine wpAnyR_skip 39 rfl (by kernel_rfl) (by kernel_rfl) (by kernel_rfl) (by kernel_rfl) (fun _ _ _ h => h) (by rfl) (by assumption) ?_
                    intro hHeld
                    try simp only [Act.put, List.setIfInBounds_toArray, List.set_cons_zero, List.set_cons_succ]
                    refine wpAnyR_take 40 rfl (by kernel_rfl) (by kernel_rfl) (by kernel_rfl) (by kernel_rfl) (fun _ _ _ h => h) (by rfl) (v := ?_) ?_ (by assumption) ?_
                    rotate_left
                    focus
                      intro wS hSw
                      (try dsimp only at hSw)
                      go_simp
                      (try simp only [hbo])
                      (try simp only [gd])
                      (try simp only [hwj])
                      (try simp only [w2, hjb, if_true, Int.toNat_natCast])
                      (try simp only [n8])
                      (try simp only [n0])
                      try with_reducible rfl
                    intro hHeld
                    try simp only [Act.put, List.setIfInBounds_toArray, List.set_cons_zero, List.set_cons_succ]
                    refine wpAnyR_done (by kernel_rfl) ?_
                    refine NoPanic.normal ?_
                    go_wp2_with fail
                    go_ret
                    exact ⟨rfl, HLO6.out _ HB7.out⟩
                  · have n0 : (kk == 0) = false := beq_eq_false_iff_ne.2 h0
                    refine wpAnyR_take 32 rfl (by kernel_rfl) (by kernel_rfl) (by kernel_rfl) (by kernel_rfl) (fun _ _ _ h => h) (by rfl) (v := ?_) ?_ (by assumption) ?_
                    rotate_left
                    focus
                      intro wS hSw
                      (try dsimp only at hSw)
                      go_simp
                      (try simp only [hbo])
                      (try simp only [gd])
                      (try simp only [hwj])
                      (try simp only [w2, hjb, if_true, Int.toNat_natCast])
                      (try simp only [n8])
                      (try simp only [n0])
                      try with_reducible rfl
                    intro hHeld
                    try simp only [Act.put, List.setIfInBounds_toArray, List.set_cons_zero, List.set_cons_succ]
                    refine wpAnyR_take 33 rfl (by kernel_rfl) (by kernel_rfl) (by kernel_rfl) (by kernel_rfl) (fun _ _ _ h => h) (by rfl) (v := ?_) ?_ (by assumption) ?_
                    rotate_left
                    focus
                      intro wS hSw
                      (try dsimp only at hSw)
                      go_simp
                      (try simp only [hbo])
                      (try simp only [gd])
                      (try simp only [hwj])
                      (try simp only [w2, hjb, if_true, Int.toNat_natCast])
                      (try simp only [n8])
                      (try simp only [n0])
                      try with_reducible rfl
                    intro hHeld
                    try simp only [Act.put, List.setIfInBounds_toArray, List.set_cons_zero, List.set_cons_succ]
                    refine wpAnyR_take 34 rfl (by kernel_rfl) (by kernel_rfl) (by kernel_rfl) (by kernel_rfl) (fun _ _ _ h => h) (by rfl) (v := ?_) ?_ (by assumption) ?_
                    rotate_left
                    focus
                      intro wS hSw
                      (try dsimp only at hSw)
                      go_simp
                      (try simp only [hbo])
                      (try simp only [gd])
                      (try simp only [hwj])
                      (try simp only [w2, hjb, if_true, Int.toNat_natCast])
                      (try simp only [n8])
                      (try simp only [n0])
                      try with_reducible rfl
                    intro hHeld
                    try simp only [Act.put, List.setIfInBounds_toArray, List.set_cons_zero, List.set_cons_succ]
                    refine wpAnyR_take 35 rfl (by kernel_rfl) (by kernel_rfl) (by kernel_rfl) (by kernel_rfl) (fun _ _ _ h => h) (by rfl) (v := ?_) ?_ (by assumption) ?_
                    rotate_left
                    focus
                      intro wS hSw
                      (try dsimp only at hSw)
                      go_simp
                      (try simp only [hbo])
                      (try simp only [gd])
                      (try simp only [hwj])
                      (try simp only [w2, hjb, if_true, Int.toNat_natCast])
                      (try simp only [n8])
                      (try simp only [n0])
                      try with_reducible rfl
                    intro hHeld
                    try simp only [Act.put, List.setIfInBounds_toArray, List.set_cons_zero, List.set_cons_succ]
                    refine wpAnyR_take 36 rfl (by kernel_rfl) (by kernel_rfl) (by kernel_rfl) (by kernel_rfl) (fun _ _ _ h => h) (by rfl) (v := ?_) ?_ (by assumption) ?_
                    rotate_left
                    focus
                      intro wS hSw
                      (try dsimp only at hSw)
                      go_simp
                      (try simp only [hbo])
                      (try simp only [gd])
                      (try simp only [hwj])
                      (try simp only [w2, hjb, if_true, Int.toNat_natCast])
                      (try simp only [n8])
                      (try simp only [n0])
                      try with_reducible rfl
                    intro hHeld
                    try simp only [Act.put, List.setIfInBounds_toArray, List.set_cons_zero, List.set_cons_succ]
                    refine wpAnyR_take 37 rfl (by kernel_rfl) (by kernel_rfl) (by kernel_rfl) (by kernel_rfl) (fun _ _ _ h => h) (by rfl) (v := ?_) ?_ (by assumption) ?_
                    rotate_left
                    focus
                      intro wS hSw
                      (try dsimp only at hSw)
                      go_simp
                      (try simp only [hbo])
                      (try simp only [gd])
                      (try simp only [hwj])
                      (try simp only [w2, hjb, if_true, Int.toNat_natCast])
                      (try simp only [n8])
                      (try simp only [n0])
                      try with_reducible rfl
                    intro hHeld
                    try simp only [Act.put, List.setIfInBounds_toArray, List.set_cons_zero, List.set_cons_succ]
                    refine wpAnyR_step 38 rfl (by kernel_rfl) (fun K hK => ?_)
                    go_simp
                    go_at_call 62
                    refine (HI.out _ HB7.out).mono ?_
                    rintro r w4 ⟨rfl, hb4⟩
                    have HB8 := Lib.hid (HB7.out.trans (hb4.mono HB7.out.size))
                    clear hb4
                    go_wp2_with fail
                    refine hK.out _ _ (HEN.out _ HB8.out) (fun hHeld => ?_)
                    clear hK K
                    try simp only [Act.put, List.setIfInBounds_toArray, List.set_cons_zero, List.set_cons_succ]
                    cases V
                    · rw [if_neg (fun h => by cases h.2.2.2.2)] at hm
                      subst hm
                      refine wpAnyR_take 39 rfl (by kernel_rfl) (by kernel_rfl) (by kernel_rfl) (by kernel_rfl) (fun _ _ _ h => h) (by rfl) (v := ?_) ?_ (by assumption) ?_
                      rotate_left
                      focus
                        intro wS hSw
                        (try dsimp only at hSw)
                        go_simp
                        (try simp only [hbo])
                        (try simp only [gd])
                        (try simp only [hwj])
                        (try simp only [w2, hjb, if_true, Int.toNat_natCast])
                        (try simp only [n8])
                        (try simp only [n0])
                        try with_reducible rfl
                      intro hHeld
                      try simp only [Act.put, List.setIfInBounds_toArray, List.set_cons_zero, List.set_cons_succ]
                      refine wpAnyR_take 40 rfl (by kernel_rfl) (by kernel_rfl) (by kernel_rfl) (by kernel_rfl) (fun _ _ _ h => h) (by rfl) (v := ?_) ?_ (by assumption) ?_
                      rotate_left
                      focus
                        intro wS hSw
                        (try dsimp only at hSw)
                        go_simp
                        (try simp only [hbo])
                        (try simp only [gd])
                        (try simp only [hwj])
                        (try simp only [w2, hjb, if_true, Int.toNat_natCast])
                        (try simp only [n8])
                        (try simp only [n0])
                        try with_reducible rfl
                      intro hHeld
                      try simp only [Act.put, List.setIfInBounds_toArray, List.set_cons_zero, List.set_cons_succ]
                      refine wpAnyR_done (by kernel_rfl) ?_
                      refine NoPanic.normal ?_
                      go_wp2_with fail
                      go_ret
                      exact ⟨rfl, HLO6.out _ HB8.out⟩
                    · rw [if_pos ⟨by trivial, hpq, h8, h0, by trivial⟩] at hm
                      have hM2 := Lib.hid hm
                      clear hm
                      refine wpAnyR_take 39 rfl (by kernel_rfl) (by kernel_rfl) (by kernel_rfl) (by kernel_rfl) (fun _ _ _ h => h) (by rfl) (v := ?_) ?_ (by assumption) ?_
                      rotate_left
                      focus
                        intro wS hSw
                        (try dsimp only at hSw)
                        go_simp
                        (try simp only [hbo])
                        (try simp only [gd])
                        (try simp only [hwj])
                        (try simp only [w2, hjb, if_true, Int.toNat_natCast])
                        (try simp only [n8])
                        (try simp only [n0])
                        try with_reducible rfl
                      intro hHeld
                      try simp only [Act.put, List.setIfInBounds_toArray, List.set_cons_zero, List.set_cons_succ]
                      refine wpAnyR_take 40 rfl (by kernel_rfl) (by kernel_rfl) (by kernel_rfl) (by kernel_rfl) (fun _ _ _ h => h) (by rfl) (v := ?_) ?_ (by assumption) ?_
                      rotate_left
                      focus
                        intro wS hSw
                        (try dsimp only at hSw)
                        go_simp
                        (try simp only [hbo])
                        (try simp only [gd])
                        (try simp only [hwj])
                        (try simp only [w2, hjb, if_true, Int.toNat_natCast])
                        (try simp only [n8])
                        (try simp only [n0])
                        try with_reducible rfl
                      intro hHeld
                      try simp only [Act.put, List.setIfInBounds_toArray, List.set_cons_zero, List.set_cons_succ]
                      refine wpAnyR_done (by kernel_rfl) ?_
                      refine NoPanic.normal ?_
                      go_wp2_with fail
                      go_roundw
                      case rel => exact ⟨i + 1, by omega, by go_num, by rw [HPK.out]; exact hM2, Lib.hid (HLW.out _ HB8.out)⟩
                      case measure => simp [intOf]; omega
        · obtain rfl : DD = i := by omega
          have hm := HM.out
          have he := Ens.drop_end d
          rw [HDD.out] at he
          rw [he, mayE] at hm
          subst hm
          clear he
          go_wp2_with fail
          go_ret
          exact ⟨rfl, HLO.out _ HBE.out⟩
end

section
open Go.RowKit
set_option linter.unusedVariables false
set_option maxRecDepth 100000
set_option maxHeartbeats 8000000 in
theorem may7 (n : Int) (b : List Int) (l : Obs) (d : Ens) (k : Int) (hkk : k = 7) (N : Nat) (hIH : MayC N) (hN : (Ob.mk k n b l d).sz ≤ N + 1) (S : Nat → Prop) (w : World) (c0 c1 c2 c3 c4 : Value) (dp : Int) (hx : ObR w S (.mk k n b l d) c0 c1 c2 c3 c4) (hS : ∀ g, S g → g < w.heap.size) (hdp : 0 ≤ dp ∧ dp ≤ 1000) :
    Calls Tryz.prog 62 #[.agg #[c0, c1, c2, c3, c4], .int .i64 dp] w fun r w' => r = .returned (.bool (mayO (.mk k n b l d) dp)) ∧ Below w.heap.size w w' := by
  have hE0 : ∀ (W : World), Below w.heap.size w W → Calls Tryz.prog 106 #[.agg #[c0, c1, c2, c3, c4], .int .i64 dp] W fun r w' => r = .returned (.bool (if dp < 1 ∨ 16777216 < b.length then false else mayE d none dp)) ∧ Below W.heap.size W w' := fun W hW => mayEC N hIH k n b l d hN S W c0 c1 c2 c3 c4 dp (ObR.keep (fun g hg => hW.block g (hS g hg)) (fun _ h => h) _ hx) (fun g hg => Nat.lt_of_lt_of_le (hS g hg) hW.size) hdp
  clear hIH
  unfold ObR at hx
  obtain ⟨rfl, rfl, hk, hn, ⟨AB, mb, cb, rfl, hB⟩, ⟨AL, cL, rfl, hlc, hl⟩, ⟨AD, cD, rfl, hdc, hd⟩⟩ := hx
  obtain ⟨LL, hLL⟩ : ∃ LL, l.len = LL := ⟨_, rfl⟩
  obtain ⟨DD, hDD⟩ : ∃ DD, d.len = DD := ⟨_, rfl⟩
  have hbl : b.length = mb := hB.1
  rw [mayO, hbl]
  rw [hLL] at hlc ⊢
  rw [hDD] at hdc ⊢
  have hb1 := (Below.refl w.heap.size w).alloc (Nat.le_refl _) (.cells #[.int .i64 k, .int .i64 n, .slice AB mb cb, .slice AL LL cL, .slice AD DD cD] 30)
  have hnew := heap_alloc_new w (.cells #[.int .i64 k, .int .i64 n, .slice AB mb cb, .slice AL LL cL, .slice AD DD cD] 30)
  obtain ⟨W1, hW1⟩ : ∃ W1, w.alloc (.cells #[.int .i64 k, .int .i64 n, .slice AB mb cb, .slice AL LL cL, .slice AD DD cD] 30) = W1 := ⟨_, rfl⟩
  have hs1 : W1.heap.size = w.heap.size + 1 := by rw [← hW1]; simp
  rw [hW1] at hb1 hnew
  have HBX : Hid (∀ W, Below W1.heap.size W1 W → Below w.heap.size w W ∧ W.cell? ⟨w.heap.size, 0, none⟩ = some (.int .i64 k) ∧ W.cell? ⟨w.heap.size, 1, none⟩ = some (.int .i64 n) ∧ W.cell? ⟨w.heap.size, 2, none⟩ = some (.slice AB mb cb) ∧ W.cell? ⟨w.heap.size, 3, none⟩ = some (.slice AL LL cL) ∧ W.cell? ⟨w.heap.size, 4, none⟩ = some (.slice AD DD cD)) := Lib.hid (fun W hW => by
    have h := (hW.block w.heap.size (by omega)).trans hnew
    exact ⟨hb1.trans (hW.mono (by omega)), cell_of_row _ _ 0 _ _ (0, 0) h, cell_of_row _ _ 1 _ _ (0, 0) h, cell_of_row _ _ 2 _ _ (0, 0) h, cell_of_row _ _ 3 _ _ (0, 0) h, cell_of_row _ _ 4 _ _ (0, 0) h⟩)
  have HHS := Lib.hid (fun W => hasC k (.int .i64 n) (.slice AB mb cb) (.slice AL LL cL) (.slice AD DD cD) W)
  obtain ⟨_, m0, m1, m2, m3, m4⟩ := HBX.out W1 (Below.refl _ _)
  have HL := Lib.hid hl
  have HD := Lib.hid hd
  have HB := Lib.hid hB
  have HS := Lib.hid hS
  have HLL := Lib.hid hLL
  have HDD := Lib.hid hDD
  have HN := Lib.hid hN
  have HS1 := Lib.hid hs1
  clear hl hd hB hS hLL hDD hN hs1 hb1 hnew hbl
  simp only [HLL.out, HDD.out, HB.out.1] at hE0
  obtain ⟨R, hR⟩ : ∃ R, (if dp < 1 ∨ 16777216 < mb then false else mayE d none dp) = R := ⟨_, rfl⟩
  simp only [hR] at hE0
  subst hkk
  have HE := Lib.hid hE0
  clear hE0
  rcases Nat.eq_zero_or_pos LL with hL0 | hL0
  · subst hL0
    rcases Nat.eq_zero_or_pos mb with hM0 | hM0
    · subst hM0
      rw [if_neg (by simp [badF])]
      by_cases hn0 : n = 0
      · subst hn0
        rw [show (if (7 : Int) = 1 then _ else _) = R by rw [← hR]; simp]
        clear hR
        rcases Nat.eq_zero_or_pos DD with hD0 | hD0
        · subst hD0
          go_enter Tryz.func62, Tryz.ntmps62
          go_wp2_with (first
            | (go_at_call 63; refine (HHS.out _).mono ?_; (rintro r w2 ⟨rfl, hb2⟩); have HB2 := Lib.hid hb2; obtain ⟨_, p0, p1, p2, p3, p4⟩ := HBX.out w2 hb2; clear hb2)
            | (go_at_call 106; refine (HE.out _ (HBX.out _ HB2.out).1).mono ?_; (rintro r w3 ⟨rfl, hb3⟩); have HB3 := Lib.hid ((HBX.out _ HB2.out).1.trans (hb3.mono (HBX.out _ HB2.out).1.size)); clear hb3))
          go_ret
          exact ⟨rfl, HB3.out⟩
        · have i2 : (DD : Int) > 0 := by omega
          go_enter Tryz.func62, Tryz.ntmps62
          go_wp2_with (first
            | (go_at_call 63; refine (HHS.out _).mono ?_; (rintro r w2 ⟨rfl, hb2⟩); have HB2 := Lib.hid hb2; obtain ⟨_, p0, p1, p2, p3, p4⟩ := HBX.out w2 hb2; clear hb2)
            | (go_at_call 106; refine (HE.out _ (HBX.out _ HB2.out).1).mono ?_; (rintro r w3 ⟨rfl, hb3⟩); have HB3 := Lib.hid ((HBX.out _ HB2.out).1.trans (hb3.mono (HBX.out _ HB2.out).1.size)); clear hb3))
          go_ret
          exact ⟨rfl, HB3.out⟩
      · have n1 : (n == 0) = false := beq_eq_false_iff_ne.2 hn0
        rw [show (if (7 : Int) = 1 then _ else _) = false by simp [hn0]]
        clear hR HE
        rcases Nat.eq_zero_or_pos DD with hD0 | hD0
        · subst hD0
          go_enter Tryz.func62, Tryz.ntmps62
          go_wp2_with (go_at_call 63; refine (HHS.out _).mono ?_; (rintro r w2 ⟨rfl, hb2⟩); have HB2 := Lib.hid hb2; obtain ⟨_, p0, p1, p2, p3, p4⟩ := HBX.out w2 hb2; clear hb2)
          go_ret
          exact ⟨rfl, (HBX.out _ HB2.out).1⟩
        · have i2 : (DD : Int) > 0 := by omega
          go_enter Tryz.func62, Tryz.ntmps62
          go_wp2_with (go_at_call 63; refine (HHS.out _).mono ?_; (rintro r w2 ⟨rfl, hb2⟩); have HB2 := Lib.hid hb2; obtain ⟨_, p0, p1, p2, p3, p4⟩ := HBX.out w2 hb2; clear hb2)
          go_ret
          exact ⟨rfl, (HBX.out _ HB2.out).1⟩
    · have i1 : (mb : Int) > 0 := by omega
      rw [if_pos (by simp [badF]; omega)]
      clear hR HE
      rcases Nat.eq_zero_or_pos DD with hD0 | hD0
      · subst hD0
        go_enter Tryz.func62, Tryz.ntmps62
        go_wp2_with (go_at_call 63; refine (HHS.out _).mono ?_; (rintro r w2 ⟨rfl, hb2⟩); have HB2 := Lib.hid hb2; obtain ⟨_, p0, p1, p2, p3, p4⟩ := HBX.out w2 hb2; clear hb2)
        go_ret
        exact ⟨rfl, (HBX.out _ HB2.out).1⟩
      · have i2 : (DD : Int) > 0 := by omega
        go_enter Tryz.func62, Tryz.ntmps62
        go_wp2_with (go_at_call 63; refine (HHS.out _).mono ?_; (rintro r w2 ⟨rfl, hb2⟩); have HB2 := Lib.hid hb2; obtain ⟨_, p0, p1, p2, p3, p4⟩ := HBX.out w2 hb2; clear hb2)
        go_ret
        exact ⟨rfl, (HBX.out _ HB2.out).1⟩
  · have i1 : (LL : Int) > 0 := by omega
    rw [if_pos (by simp [badF]; omega)]
    clear hR HE
    go_enter Tryz.func62, Tryz.ntmps62
    go_wp2_with (go_at_call 63; refine (HHS.out _).mono ?_; (rintro r w2 ⟨rfl, hb2⟩); have HB2 := Lib.hid hb2; obtain ⟨_, p0, p1, p2, p3, p4⟩ := HBX.out w2 hb2; clear hb2)
    go_ret
    exact ⟨rfl, (HBX.out _ HB2.out).1⟩
end

section
open Go.RowKit
set_option linter.unusedVariables false
set_option maxRecDepth 100000
set_option maxHeartbeats 8000000 in
theorem may8 (n : Int) (b : List Int) (l : Obs) (d : Ens) (k : Int) (hkk : k = 8) (N : Nat) (hIH : MayC N) (hN : (Ob.mk k n b l d).sz ≤ N + 1) (S : Nat → Prop) (w : World) (c0 c1 c2 c3 c4 : Value) (dp : Int) (hx : ObR w S (.mk k n b l d) c0 c1 c2 c3 c4) (hS : ∀ g, S g → g < w.heap.size) (hdp : 0 ≤ dp ∧ dp ≤ 1000) :
    Calls Tryz.prog 62 #[.agg #[c0, c1, c2, c3, c4], .int .i64 dp] w fun r w' => r = .returned (.bool (mayO (.mk k n b l d) dp)) ∧ Below w.heap.size w w' := by
  have hE0 : ∀ (W : World), Below w.heap.size w W → Calls Tryz.prog 106 #[.agg #[c0, c1, c2, c3, c4], .int .i64 dp] W fun r w' => r = .returned (.bool (if dp < 1 ∨ 16777216 < b.length then false else mayE d none dp)) ∧ Below W.heap.size W w' := fun W hW => mayEC N hIH k n b l d hN S W c0 c1 c2 c3 c4 dp (ObR.keep (fun g hg => hW.block g (hS g hg)) (fun _ h => h) _ hx) (fun g hg => Nat.lt_of_lt_of_le (hS g hg) hW.size) hdp
  clear hIH
  unfold ObR at hx
  obtain ⟨rfl, rfl, hk, hn, ⟨AB, mb, cb, rfl, hB⟩, ⟨AL, cL, rfl, hlc, hl⟩, ⟨AD, cD, rfl, hdc, hd⟩⟩ := hx
  obtain ⟨LL, hLL⟩ : ∃ LL, l.len = LL := ⟨_, rfl⟩
  obtain ⟨DD, hDD⟩ : ∃ DD, d.len = DD := ⟨_, rfl⟩
  have hbl : b.length = mb := hB.1
  rw [mayO, hbl]
  rw [hLL] at hlc ⊢
  rw [hDD] at hdc ⊢
  have hb1 := (Below.refl w.heap.size w).alloc (Nat.le_refl _) (.cells #[.int .i64 k, .int .i64 n, .slice AB mb cb, .slice AL LL cL, .slice AD DD cD] 30)
  have hnew := heap_alloc_new w (.cells #[.int .i64 k, .int .i64 n, .slice AB mb cb, .slice AL LL cL, .slice AD DD cD] 30)
  obtain ⟨W1, hW1⟩ : ∃ W1, w.alloc (.cells #[.int .i64 k, .int .i64 n, .slice AB mb cb, .slice AL LL cL, .slice AD DD cD] 30) = W1 := ⟨_, rfl⟩
  have hs1 : W1.heap.size = w.heap.size + 1 := by rw [← hW1]; simp
  rw [hW1] at hb1 hnew
  have HBX : Hid (∀ W, Below W1.heap.size W1 W → Below w.heap.size w W ∧ W.cell? ⟨w.heap.size, 0, none⟩ = some (.int .i64 k) ∧ W.cell? ⟨w.heap.size, 1, none⟩ = some (.int .i64 n) ∧ W.cell? ⟨w.heap.size, 2, none⟩ = some (.slice AB mb cb) ∧ W.cell? ⟨w.heap.size, 3, none⟩ = some (.slice AL LL cL) ∧ W.cell? ⟨w.heap.size, 4, none⟩ = some (.slice AD DD cD)) := Lib.hid (fun W hW => by
    have h := (hW.block w.heap.size (by omega)).trans hnew
    exact ⟨hb1.trans (hW.mono (by omega)), cell_of_row _ _ 0 _ _ (0, 0) h, cell_of_row _ _ 1 _ _ (0, 0) h, cell_of_row _ _ 2 _ _ (0, 0) h, cell_of_row _ _ 3 _ _ (0, 0) h, cell_of_row _ _ 4 _ _ (0, 0) h⟩)
  have HHS := Lib.hid (fun W => hasC k (.int .i64 n) (.slice AB mb cb) (.slice AL LL cL) (.slice AD DD cD) W)
  obtain ⟨_, m0, m1, m2, m3, m4⟩ := HBX.out W1 (Below.refl _ _)
  have HL := Lib.hid hl
  have HD := Lib.hid hd
  have HB := Lib.hid hB
  have HS := Lib.hid hS
  have HLL := Lib.hid hLL
  have HDD := Lib.hid hDD
  have HN := Lib.hid hN
  have HS1 := Lib.hid hs1
  clear hl hd hB hS hLL hDD hN hs1 hb1 hnew hbl
  simp only [HLL.out, HDD.out, HB.out.1] at hE0
  obtain ⟨R, hR⟩ : ∃ R, (if dp < 1 ∨ 16777216 < mb then false else mayE d none dp) = R := ⟨_, rfl⟩
  simp only [hR] at hE0
  subst hkk
  have HE := Lib.hid hE0
  clear hE0
  rcases Nat.eq_zero_or_pos LL with hL0 | hL0
  · subst hL0
    rcases Nat.eq_zero_or_pos mb with hM0 | hM0
    · subst hM0
      rw [if_neg (by simp [badF])]
      by_cases hn0 : n = 0
      · subst hn0
        rw [show (if (8 : Int) = 1 then _ else _) = R by rw [← hR]; simp]
        clear hR
        rcases Nat.eq_zero_or_pos DD with hD0 | hD0
        · subst hD0
          go_enter Tryz.func62, Tryz.ntmps62
          go_wp2_with (first
            | (go_at_call 63; refine (HHS.out _).mono ?_; (rintro r w2 ⟨rfl, hb2⟩); have HB2 := Lib.hid hb2; obtain ⟨_, p0, p1, p2, p3, p4⟩ := HBX.out w2 hb2; clear hb2)
            | (go_at_call 106; refine (HE.out _ (HBX.out _ HB2.out).1).mono ?_; (rintro r w3 ⟨rfl, hb3⟩); have HB3 := Lib.hid ((HBX.out _ HB2.out).1.trans (hb3.mono (HBX.out _ HB2.out).1.size)); clear hb3))
          go_ret
          exact ⟨rfl, HB3.out⟩
        · have i2 : (DD : Int) > 0 := by omega
          go_enter Tryz.func62, Tryz.ntmps62
          go_wp2_with (first
            | (go_at_call 63; refine (HHS.out _).mono ?_; (rintro r w2 ⟨rfl, hb2⟩); have HB2 := Lib.hid hb2; obtain ⟨_, p0, p1, p2, p3, p4⟩ := HBX.out w2 hb2; clear hb2)
            | (go_at_call 106; refine (HE.out _ (HBX.out _ HB2.out).1).mono ?_; (rintro r w3 ⟨rfl, hb3⟩); have HB3 := Lib.hid ((HBX.out _ HB2.out).1.trans (hb3.mono (HBX.out _ HB2.out).1.size)); clear hb3))
          go_ret
          exact ⟨rfl, HB3.out⟩
      · have n1 : (n == 0) = false := beq_eq_false_iff_ne.2 hn0
        rw [show (if (8 : Int) = 1 then _ else _) = false by simp [hn0]]
        clear hR HE
        rcases Nat.eq_zero_or_pos DD with hD0 | hD0
        · subst hD0
          go_enter Tryz.func62, Tryz.ntmps62
          go_wp2_with (go_at_call 63; refine (HHS.out _).mono ?_; (rintro r w2 ⟨rfl, hb2⟩); have HB2 := Lib.hid hb2; obtain ⟨_, p0, p1, p2, p3, p4⟩ := HBX.out w2 hb2; clear hb2)
          go_ret
          exact ⟨rfl, (HBX.out _ HB2.out).1⟩
        · have i2 : (DD : Int) > 0 := by omega
          go_enter Tryz.func62, Tryz.ntmps62
          go_wp2_with (go_at_call 63; refine (HHS.out _).mono ?_; (rintro r w2 ⟨rfl, hb2⟩); have HB2 := Lib.hid hb2; obtain ⟨_, p0, p1, p2, p3, p4⟩ := HBX.out w2 hb2; clear hb2)
          go_ret
          exact ⟨rfl, (HBX.out _ HB2.out).1⟩
    · have i1 : (mb : Int) > 0 := by omega
      rw [if_neg (by simp [badF])]
      by_cases hn0 : n = 0
      · subst hn0
        rw [show (if (8 : Int) = 1 then _ else _) = R by rw [← hR]; simp]
        clear hR
        rcases Nat.eq_zero_or_pos DD with hD0 | hD0
        · subst hD0
          go_enter Tryz.func62, Tryz.ntmps62
          go_wp2_with (first
            | (go_at_call 63; refine (HHS.out _).mono ?_; (rintro r w2 ⟨rfl, hb2⟩); have HB2 := Lib.hid hb2; obtain ⟨_, p0, p1, p2, p3, p4⟩ := HBX.out w2 hb2; clear hb2)
            | (go_at_call 106; refine (HE.out _ (HBX.out _ HB2.out).1).mono ?_; (rintro r w3 ⟨rfl, hb3⟩); have HB3 := Lib.hid ((HBX.out _ HB2.out).1.trans (hb3.mono (HBX.out _ HB2.out).1.size)); clear hb3))
          go_ret
          exact ⟨rfl, HB3.out⟩
        · have i2 : (DD : Int) > 0 := by omega
          go_enter Tryz.func62, Tryz.ntmps62
          go_wp2_with (first
            | (go_at_call 63; refine (HHS.out _).mono ?_; (rintro r w2 ⟨rfl, hb2⟩); have HB2 := Lib.hid hb2; obtain ⟨_, p0, p1, p2, p3, p4⟩ := HBX.out w2 hb2; clear hb2)
            | (go_at_call 106; refine (HE.out _ (HBX.out _ HB2.out).1).mono ?_; (rintro r w3 ⟨rfl, hb3⟩); have HB3 := Lib.hid ((HBX.out _ HB2.out).1.trans (hb3.mono (HBX.out _ HB2.out).1.size)); clear hb3))
          go_ret
          exact ⟨rfl, HB3.out⟩
      · have n1 : (n == 0) = false := beq_eq_false_iff_ne.2 hn0
        rw [show (if (8 : Int) = 1 then _ else _) = false by simp [hn0]]
        clear hR HE
        rcases Nat.eq_zero_or_pos DD with hD0 | hD0
        · subst hD0
          go_enter Tryz.func62, Tryz.ntmps62
          go_wp2_with (go_at_call 63; refine (HHS.out _).mono ?_; (rintro r w2 ⟨rfl, hb2⟩); have HB2 := Lib.hid hb2; obtain ⟨_, p0, p1, p2, p3, p4⟩ := HBX.out w2 hb2; clear hb2)
          go_ret
          exact ⟨rfl, (HBX.out _ HB2.out).1⟩
        · have i2 : (DD : Int) > 0 := by omega
          go_enter Tryz.func62, Tryz.ntmps62
          go_wp2_with (go_at_call 63; refine (HHS.out _).mono ?_; (rintro r w2 ⟨rfl, hb2⟩); have HB2 := Lib.hid hb2; obtain ⟨_, p0, p1, p2, p3, p4⟩ := HBX.out w2 hb2; clear hb2)
          go_ret
          exact ⟨rfl, (HBX.out _ HB2.out).1⟩
  · have i1 : (LL : Int) > 0 := by omega
    rw [if_pos (by simp [badF]; omega)]
    clear hR HE
    go_enter Tryz.func62, Tryz.ntmps62
    go_wp2_with (go_at_call 63; refine (HHS.out _).mono ?_; (rintro r w2 ⟨rfl, hb2⟩); have HB2 := Lib.hid hb2; obtain ⟨_, p0, p1, p2, p3, p4⟩ := HBX.out w2 hb2; clear hb2)
    go_ret
    exact ⟨rfl, (HBX.out _ HB2.out).1⟩
end

section
open Go.RowKit
set_option linter.unusedVariables false
set_option maxRecDepth 100000
theorem mayC : ∀ N, MayC N
  | 0 => fun x hN => by
    obtain ⟨k, n, b, l, d⟩ := x
    rw [Ob.sz] at hN; omega
  | N + 1 => fun x hN S w c0 c1 c2 c3 c4 dp hx hS hdp => by
    obtain ⟨k, n, b, l, d⟩ := x
    by_cases h0 : k = 0
    · exact may0 n b l d k h0 (N + 1) hN S w c0 c1 c2 c3 c4 dp hx hS hdp
    by_cases h1 : k = 1
    · exact may1 n b l d k h1 (N + 1) hN S w c0 c1 c2 c3 c4 dp hx hS hdp
    by_cases h2 : k = 2
    · exact may2 n b l d k h2 (N + 1) hN S w c0 c1 c2 c3 c4 dp hx hS hdp
    by_cases h3 : k = 3
    · exact may3 n b l d k h3 (N + 1) hN S w c0 c1 c2 c3 c4 dp hx hS hdp
    by_cases h4 : k = 4
    · exact may4 n b l d k h4 (N + 1) hN S w c0 c1 c2 c3 c4 dp hx hS hdp
    by_cases h5 : k = 5
    · exact may5 n b l d k h5 (N + 1) hN S w c0 c1 c2 c3 c4 dp hx hS hdp
    by_cases h9 : k = 9
    · exact may9 n b l d k h9 (N + 1) hN S w c0 c1 c2 c3 c4 dp hx hS hdp
    by_cases h6 : k = 6
    · exact may6 n b l d k h6 N (mayC N) hN S w c0 c1 c2 c3 c4 dp hx hS hdp
    by_cases h7 : k = 7
    · exact may7 n b l d k h7 N (mayC N) hN S w c0 c1 c2 c3 c4 dp hx hS hdp
    by_cases h8 : k = 8
    · exact may8 n b l d k h8 N (mayC N) hN S w c0 c1 c2 c3 c4 dp hx hS hdp
    exact mayX n b l d k ⟨h0, h1, h2, h3, h4, h5, h6, h7, h8, h9⟩ (N + 1) hN S w c0 c1 c2 c3 c4 dp hx hS hdp
theorem mayTopC (x : Ob) (S : Nat → Prop) (w : World) (c0 c1 c2 c3 c4 : Value) (hx : ObR w S x c0 c1 c2 c3 c4) (hS : ∀ g, S g → g < w.heap.size) :
    Calls Tryz.prog 23 #[.agg #[c0, c1, c2, c3, c4]] w fun r w' => r = .returned (.bool (mayO x 28)) ∧ Below w.heap.size w w' := by
  obtain ⟨k, n, b, l, d⟩ := x
  have HC := Lib.hid (fun W (hW : Below w.heap.size w W) => mayC _ (.mk k n b l d) (Nat.le_refl _) S W c0 c1 c2 c3 c4 28 (ObR.keep (fun g hg => hW.block g (hS g hg)) (fun _ h => h) _ hx) (fun g hg => Nat.lt_of_lt_of_le (hS g hg) hW.size) (by omega))
  unfold ObR at hx
  obtain ⟨rfl, rfl, -, -, ⟨A2, m2, d2, rfl, -⟩, ⟨A3, d3, rfl, -, -⟩, ⟨A4, d4, rfl, -, -⟩⟩ := hx
  obtain ⟨R, hR⟩ : ∃ R, mayO (.mk k n b l d) 28 = R := ⟨_, rfl⟩
  rw [hR] at HC ⊢
  clear hR
  obtain ⟨LL, hLL⟩ : ∃ LL, l.len = LL := ⟨_, rfl⟩
  obtain ⟨DD, hDD⟩ : ∃ DD, d.len = DD := ⟨_, rfl⟩
  rw [hLL, hDD] at HC ⊢
  have hb1 := (Below.refl w.heap.size w).alloc (Nat.le_refl _) (.cells #[.int .i64 k, .int .i64 n, .slice A2 m2 d2, .slice A3 LL d3, .slice A4 DD d4] 30)
  have hnew := heap_alloc_new w (.cells #[.int .i64 k, .int .i64 n, .slice A2 m2 d2, .slice A3 LL d3, .slice A4 DD d4] 30)
  obtain ⟨W1, hW1⟩ : ∃ W1, w.alloc (.cells #[.int .i64 k, .int .i64 n, .slice A2 m2 d2, .slice A3 LL d3, .slice A4 DD d4] 30) = W1 := ⟨_, rfl⟩
  rw [hW1] at hb1 hnew
  have m0 : W1.cell? ⟨w.heap.size, 0, none⟩ = some (.int .i64 k) := cell_of_row _ _ 0 _ _ (0, 0) hnew
  have m1 : W1.cell? ⟨w.heap.size, 1, none⟩ = some (.int .i64 n) := cell_of_row _ _ 1 _ _ (0, 0) hnew
  have m2 : W1.cell? ⟨w.heap.size, 2, none⟩ = some (.slice A2 m2 d2) := cell_of_row _ _ 2 _ _ (0, 0) hnew
  have m3 : W1.cell? ⟨w.heap.size, 3, none⟩ = some (.slice A3 LL d3) := cell_of_row _ _ 3 _ _ (0, 0) hnew
  have m4 : W1.cell? ⟨w.heap.size, 4, none⟩ = some (.slice A4 DD d4) := cell_of_row _ _ 4 _ _ (0, 0) hnew
  have HW1 := Lib.hid hW1
  have HB1 := Lib.hid hb1
  clear hW1 hb1 hnew hLL hDD
  go_enter Tryz.func23, Tryz.ntmps23
  go_upto_region 1 with fail
  rw [HW1.out]
  go_wp2_with (go_at_call 62; refine (HC.out _ HB1.out).mono ?_; (rintro r w3 ⟨rfl, hb3⟩); have HB3 := Lib.hid (HB1.out.trans (hb3.mono HB1.out.size)); clear hb3)
  go_ret
  exact ⟨rfl, HB3.out⟩
end
end Go.Proofs.YtliieeagbpmcgaaGreatDoor
