/- Contracts of functions that the law calls, and what they lean on (a part). -/
import Derived.Test.YtliieeagbpmcgaaDoorPu21
namespace Go.Proofs.YtliieeagbpmcgaaDoor
section
open Go.RowKit
set_option linter.unusedVariables false
set_option maxRecDepth 100000
/-- Entry after entry. -/
def dictF : Ens → Ens → Ens
  | .nil, acc => acc
  | .cons s x xs, acc => dictF xs (withE s x acc (decide (x.kind = 0)))
/-- A row of entries, as a slice, in blocks of a kind. -/
def EnsV (w : World) (S : Nat → Prop) (l : Ens) (A : Option Addr) (c : Nat) : Prop := (l.len ≤ c ∧ c ≤ 9223372036854775807) ∧ (0 < l.len → ∃ g o, A = some ⟨g, o, none⟩ ∧ S g ∧ EnsR w S l g o)
theorem EnsV.keep {w w' : World} {S S' : Nat → Prop} {l : Ens} {A : Option Addr} {c : Nat} (h : EnsV w S l A c) (hb : ∀ g, S g → w'.heap[g]? = w.heap[g]?) (hS : ∀ g, S g → S' g) : EnsV w' S' l A c :=
  ⟨h.1, fun h0 => by
    obtain ⟨g, o, e, hg, hx⟩ := h.2 h0
    exact ⟨g, o, e, hS g hg, EnsR.keep hb hS l g o (hS g hg) hg hx⟩⟩
/-- The state of a maker: the answer's block, the block that is being filled behind it. -/
structure DiS (w wr : World) (base : Nat) (c0 c1 c2 c3 vD : Value) : Prop where
  low : Below w.heap.size w wr
  res : wr.heap[w.heap.size]? = some (.cells #[.int .i64 0, .int .i64 0, .slice none 0 0, .slice none 0 0, .slice none 0 0] 26 (0, 0))
  out : wr.heap[w.heap.size + 1]? = some (.cells #[c0, c1, c2, c3, vD] 26 (0, 0))
  g1 : w.heap.size + 2 ≤ base
  g2 : base ≤ wr.heap.size
section
variable {w wr wr' : World} {base : Nat} {c0 c1 c2 c3 vD : Value}
theorem DiS.step (h : DiS w wr base c0 c1 c2 c3 vD) (hb : Below base wr wr') : DiS w wr' base c0 c1 c2 c3 vD :=
  ⟨h.low.trans (hb.mono (by have := h.g1; omega)), (hb.block _ (by have := h.g1; omega)).trans h.res, (hb.block _ (by have := h.g1; omega)).trans h.out, h.g1, Nat.le_trans h.g2 hb.size⟩
theorem DiS.put4 (h : DiS w wr base c0 c1 c2 c3 vD) (v : Value) : DiS w (wr.setCell ⟨w.heap.size + 1, 4, none⟩ v) base c0 c1 c2 c3 v :=
  ⟨h.low.setCell (p := ⟨w.heap.size + 1, 4, none⟩) (Nat.le_succ _) v, (set_blk9 wr (w.heap.size + 1) 4 _ v (by omega)).trans h.res, heap_set wr (w.heap.size + 1) 4 v [c0, c1, c2, c3, vD] _ h.out, h.g1, by simpa [World.setCell] using h.g2⟩
theorem DiS.drew (h : DiS w wr base c0 c1 c2 c3 vD) : DiS w wr.drew base c0 c1 c2 c3 vD := h.step ((Below.refl base wr).drew)
end
abbrev SB (base : Nat) (wr : World) : Nat → Prop := fun g => base ≤ g ∧ g < wr.heap.size
theorem kind_c0 {w : World} {S : Nat → Prop} : ∀ {x : Ob} {c0 c1 c2 c3 c4 : Value}, ObR w S x c0 c1 c2 c3 c4 → c0 = .int .i64 x.kind
  | .mk k n b l d, c0, c1, c2, c3, c4, h => by unfold ObR at h; exact h.1
theorem dictF_drop (l : Ens) (i : Nat) (s : ByteArray) (x : Ob) (acc : Ens) (h : l.get? i = some (s, x)) : dictF (l.dropN i) acc = dictF (l.dropN (i + 1)) (withE s x acc (decide (x.kind = 0))) := by
  rw [l.drop_get i s x h, dictF]
set_option maxHeartbeats 8000000 in
theorem dictC (l : Ens) (Sl : Nat → Prop) (w : World) (AL : Option Addr) (cL : Nat) (hl : EnsV w Sl l AL cL) (hS : ∀ g, Sl g → g < w.heap.size) (hok : okE l) (hll : l.len ≤ 1000000) :
    Calls Tryd.prog 9 #[.slice AL l.len cL] w (CpP w (.mk 7 0 [] .nil (dictF l .nil))) := by
  have hb1 := (Below.refl w.heap.size w).alloc (Nat.le_refl _) (.cells #[.int .i64 0, .int .i64 0, .slice none 0 0, .slice none 0 0, .slice none 0 0] 26)
  have hn1 := heap_alloc_new w (.cells #[.int .i64 0, .int .i64 0, .slice none 0 0, .slice none 0 0, .slice none 0 0] 26)
  obtain ⟨W0, hW0⟩ : ∃ W0, w.alloc (.cells #[.int .i64 0, .int .i64 0, .slice none 0 0, .slice none 0 0, .slice none 0 0] 26) = W0 := ⟨_, rfl⟩
  have hs0 : W0.heap.size = w.heap.size + 1 := by rw [← hW0]; simp
  rw [hW0] at hb1 hn1
  have hb2 := (Below.refl W0.heap.size W0).alloc (Nat.le_refl _) (.cells #[.int .i64 7, .int .i64 0, .slice none 0 0, .slice none 0 0, .slice none 0 0] 26)
  have hn2 := heap_alloc_new W0 (.cells #[.int .i64 7, .int .i64 0, .slice none 0 0, .slice none 0 0, .slice none 0 0] 26)
  obtain ⟨W1, hW1⟩ : ∃ W1, W0.alloc (.cells #[.int .i64 7, .int .i64 0, .slice none 0 0, .slice none 0 0, .slice none 0 0] 26) = W1 := ⟨_, rfl⟩
  have hs1 : W1.heap.size = w.heap.size + 2 := by rw [← hW1]; simp; omega
  rw [hW1] at hb2 hn2
  rw [hs0] at hn2
  have HDI : Hid (DiS w W1 (w.heap.size + 2) (.int .i64 7) (.int .i64 0) (.slice none 0 0) (.slice none 0 0) (.slice none 0 0)) := Lib.hid ⟨hb1.trans (hb2.mono (by omega)), (hb2.block _ (by omega)).trans hn1, hn2, Nat.le_refl _, by omega⟩
  obtain ⟨R, hR⟩ : ∃ R, dictF l .nil = R := ⟨_, rfl⟩
  rw [hR]
  have HR := Lib.hid hR
  obtain ⟨LL, hLL⟩ : ∃ LL, l.len = LL := ⟨_, rfl⟩
  rw [hLL] at hll ⊢
  have HL := Lib.hid hl
  have HLL := Lib.hid hLL
  have HS := Lib.hid hS
  have HOK := Lib.hid hok
  have HS0 := Lib.hid hs0
  have HWE := Lib.hid hW1
  clear hW1 hb1 hn1 hb2 hn2 hs0 hs1 hR hl hLL hS hok
  go_enter Tryd.func9, Tryd.ntmps9
  go_wp2_with fail
  rw [HWE.out, HS0.out]
  go_loopw [4] (fun iv wr => ∃ (i cV : Nat) (AV : Option Addr) (O : Ens), i ≤ LL ∧ iv = .int .i64 i ∧ Hid (O.len ≤ i) ∧ Hid (dictF (l.dropN i) O = R) ∧ Hid (DiS w wr (w.heap.size + 2) (.int .i64 7) (.int .i64 0) (.slice none 0 0) (.slice none 0 0) (.slice AV O.len cV)) ∧ Hid (EnsV wr (SB (w.heap.size + 2) wr) O AV cV)) (fun iv _ => LL - (intOf iv).toNat)
  case atStart => exact ⟨0, 0, none, .nil, Nat.zero_le _, rfl, Lib.hid (Nat.le_refl _), Lib.hid (by rw [← HR.out]; cases l <;> rfl), HDI, Lib.hid ⟨⟨Nat.le_refl _, by omega⟩, fun h => by cases h⟩⟩
  case round =>
    obtain ⟨i, cV, AV, O, hi, rfl, HOL, HM, HDS, HEV⟩ := hrel
    have hww : Below w.heap.size w wr := HDS.out.low
    by_cases hlt : i < LL
    · have hgt := l.get_some i (by rw [HLL.out]; exact hlt)
      obtain ⟨sy, y, hy⟩ := hgt
      obtain ⟨g, o, rfl, hg, hobs⟩ := HL.out.2 (by rw [HLL.out]; omega)
      obtain ⟨d0, d1, d2, d3, d4, ks, k0, k1, k2, k3, k4, hyr⟩ := hobs.get l g o i sy y hy
      have hgw : g < w.heap.size := HS.out g hg
      have HEL : Hid (∀ W, DiS w W (w.heap.size + 2) (.int .i64 7) (.int .i64 0) (.slice none 0 0) (.slice none 0 0) (.slice AV O.len cV) → W.cell? ⟨w.heap.size + 1, 4, none⟩ = some (.slice AV O.len cV) ∧ W.cell? ⟨g, o + i * 6, none⟩ = some (.string sy) ∧ W.cell? ⟨g, o + i * 6 + 1, none⟩ = some d0 ∧ W.cell? ⟨g, o + i * 6 + 2, none⟩ = some d1 ∧ W.cell? ⟨g, o + i * 6 + 3, none⟩ = some d2 ∧ W.cell? ⟨g, o + i * 6 + 4, none⟩ = some d3 ∧ W.cell? ⟨g, o + i * 6 + 5, none⟩ = some d4) := Lib.hid (fun W hW => by
        have e := fun j => World.cell?_of_block (a := ⟨g, j, none⟩) (hW.low.block g hgw)
        exact ⟨cell_of_row _ _ 4 _ _ (0, 0) hW.out, (e _).trans ks, (e _).trans k0, (e _).trans k1, (e _).trans k2, (e _).trans k3, (e _).trans k4⟩)
      have hwd : Below w.heap.size w wr.drew := hww.drew
      have HWI := Lib.hid (withC sy y O (SB (w.heap.size + 2) wr) Sl wr.drew AV cV d0 d1 d2 d3 d4 HEV.out.1 (HEV.out.keep (w' := wr.drew) (fun _ _ => rfl) (fun _ h => h)).2 (ObR.keep (fun b hb => hwd.block b (HS.out b hb)) (fun _ h => h) y hyr) (fun b hb => hb.2) (fun b hb => Nat.lt_of_lt_of_le (HS.out b hb) hwd.size) (okE_get l i sy y HOK.out hy) (by have := HOL.out; omega))
      have hm := HM.out
      rw [dictF_drop l i sy y O hy] at hm
      have hwl := withE_len sy y O (decide (y.kind = 0))
      obtain ⟨O2, hO2⟩ : ∃ O2, withE sy y O (decide (y.kind = 0)) = O2 := ⟨_, rfl⟩
      rw [hO2] at HWI hm hwl
      have HM2 := Lib.hid hm
      have HOL2 : Hid (O2.len ≤ i + 1) := Lib.hid (by have := HOL.out; omega)
      have hli : (i : Int) < LL := by omega
      obtain ⟨m3, m4, m5, m6, m7, m8, m9⟩ := HEL.out wr HDS.out
      obtain ⟨a3, a4, a5, a6, a7, a8, a9⟩ := HEL.out wr.drew HDS.out.drew
      clear hy hobs hyr hg hgw ks k0 k1 k2 k3 k4 hm hwl hO2 hww hwd
      go_upto_region 5 with fail
      refine wp_region_heldR (fun w' => w'.cell? ⟨w.heap.size + 1, 4, none⟩ = some (.slice AV O.len cV) ∧ w'.cell? ⟨g, o + i * 6, none⟩ = some (.string sy) ∧ w'.cell? ⟨g, o + i * 6 + 1, none⟩ = some d0 ∧ w'.cell? ⟨g, o + i * 6 + 2, none⟩ = some d1 ∧ w'.cell? ⟨g, o + i * 6 + 3, none⟩ = some d2 ∧ w'.cell? ⟨g, o + i * 6 + 4, none⟩ = some d3 ∧ w'.cell? ⟨g, o + i * 6 + 5, none⟩ = some d4) 8 (by kernel_rfl) ⟨a3, a4, a5, a6, a7, a8, a9⟩ (fun hHeld => ?_)
      refine wpAnyR_take 0 rfl (by kernel_rfl) (by kernel_rfl) (by kernel_rfl) (by kernel_rfl) (fun _ _ _ h => h) (by rfl) (v := ?_) ?_ (by assumption) ?_
      rotate_left
      focus
        intro wS hSw
        (try dsimp only at hSw)
        go_simp
        try with_reducible rfl
      intro hHeld
      try simp only [Act.put, List.setIfInBounds_toArray, List.set_cons_zero, List.set_cons_succ]
      refine wpAnyR_take 1 rfl (by kernel_rfl) (by kernel_rfl) (by kernel_rfl) (by kernel_rfl) (fun _ _ _ h => h) (by rfl) (v := ?_) ?_ (by assumption) ?_
      rotate_left
      focus
        intro wS hSw
        (try dsimp only at hSw)
        go_simp
        try with_reducible rfl
      intro hHeld
      try simp only [Act.put, List.setIfInBounds_toArray, List.set_cons_zero, List.set_cons_succ]
      refine wpAnyR_take 2 rfl (by kernel_rfl) (by kernel_rfl) (by kernel_rfl) (by kernel_rfl) (fun _ _ _ h => h) (by rfl) (v := ?_) ?_ (by assumption) ?_
      rotate_left
      focus
        intro wS hSw
        (try dsimp only at hSw)
        go_simp
        try with_reducible rfl
      intro hHeld
      try simp only [Act.put, List.setIfInBounds_toArray, List.set_cons_zero, List.set_cons_succ]
      refine wpAnyR_take 3 rfl (by kernel_rfl) (by kernel_rfl) (by kernel_rfl) (by kernel_rfl) (fun _ _ _ h => h) (by rfl) (v := ?_) ?_ (by assumption) ?_
      rotate_left
      focus
        intro wS hSw
        (try dsimp only at hSw)
        go_simp
        try with_reducible rfl
      intro hHeld
      try simp only [Act.put, List.setIfInBounds_toArray, List.set_cons_zero, List.set_cons_succ]
      refine wpAnyR_take 4 rfl (by kernel_rfl) (by kernel_rfl) (by kernel_rfl) (by kernel_rfl) (fun _ _ _ h => h) (by rfl) (v := ?_) ?_ (by assumption) ?_
      rotate_left
      focus
        intro wS hSw
        (try dsimp only at hSw)
        go_simp
        try with_reducible rfl
      intro hHeld
      try simp only [Act.put, List.setIfInBounds_toArray, List.set_cons_zero, List.set_cons_succ]
      refine wpAnyR_take 5 rfl (by kernel_rfl) (by kernel_rfl) (by kernel_rfl) (by kernel_rfl) (fun _ _ _ h => h) (by rfl) (v := ?_) ?_ (by assumption) ?_
      rotate_left
      focus
        intro wS hSw
        (try dsimp only at hSw)
        go_simp
        try with_reducible rfl
      intro hHeld
      try simp only [Act.put, List.setIfInBounds_toArray, List.set_cons_zero, List.set_cons_succ]
      refine wpAnyR_step 6 rfl (by kernel_rfl) (fun K hK => ?_)
      go_simp
      go_at_call 17
      refine HWI.out.mono ?_
      rintro r w2 ⟨A2, c2, rfl, hc2, hx2, hb2⟩
      have HD2 := Lib.hid (HDS.out.drew.step (hb2.mono HDS.out.drew.g2))
      have HX2 := Lib.hid hx2
      have HC2 := Lib.hid hc2
      have HSZ2 : Hid (wr.heap.size ≤ w2.heap.size) := Lib.hid hb2.size
      have HGW : Hid (w.heap.size + 2 ≤ wr.heap.size) := Lib.hid HDS.out.g2
      have fz : w2.frozen? ⟨w.heap.size + 1, 4, none⟩ = false := by (have := HD2.out.out; simp [World.frozen?, this])
      obtain ⟨p3, p4, p5, p6, p7, p8, p9⟩ := HEL.out w2 HD2.out
      clear hb2 hc2 hx2
      go_wp2_with fail
      refine hK.out _ _ (⟨p3, p4, p5, p6, p7, p8, p9⟩) (fun hHeld => ?_)
      clear hK K
      try simp only [Act.put, List.setIfInBounds_toArray, List.set_cons_zero, List.set_cons_succ]
      refine wpAnyR_take 7 rfl (by kernel_rfl) (by kernel_rfl) (by kernel_rfl) (by kernel_rfl) (fun _ _ _ h => h) (by rfl) (v := ?_) ?_ (by assumption) ?_
      rotate_left
      focus
        intro wS hSw
        (try dsimp only at hSw)
        go_simp
        try with_reducible rfl
      intro hHeld
      try simp only [Act.put, List.setIfInBounds_toArray, List.set_cons_zero, List.set_cons_succ]
      refine wpAnyR_last rfl (by kernel_rfl) (by kernel_rfl) (fun K hK => ?_)
      go_simp
      refine hK.out _ _ ?_
      clear hK K
      refine NoPanic.normal ?_
      have HD4 := Lib.hid (HD2.out.put4 (.slice A2 O2.len c2))
      have HEV4 : Hid (EnsV (w2.setCell ⟨w.heap.size + 1, 4, none⟩ (.slice A2 O2.len c2)) (SB (w.heap.size + 2) (w2.setCell ⟨w.heap.size + 1, 4, none⟩ (.slice A2 O2.len c2))) O2 A2 c2) := Lib.hid ⟨HC2.out, fun h0 => by
        obtain ⟨g, o, e, hg, hx⟩ := HX2.out h0
        have key0 : ∀ b, (SB (w.heap.size + 2) wr b ∨ wr.drew.heap.size ≤ b) ∧ b < w2.heap.size → w.heap.size + 2 ≤ b ∧ b < w2.heap.size := fun b hb => by
          refine ⟨?_, hb.2⟩
          rcases hb.1 with h | h
          · exact h.1
          · have h2 : wr.heap.size ≤ b := h
            have := HGW.out
            omega
        have key : ∀ b, (SB (w.heap.size + 2) wr b ∨ wr.drew.heap.size ≤ b) ∧ b < w2.heap.size → SB (w.heap.size + 2) (w2.setCell ⟨w.heap.size + 1, 4, none⟩ (.slice A2 O2.len c2)) b := fun b hb => ⟨(key0 b hb).1, by simpa [World.setCell] using hb.2⟩
        exact ⟨g, o, e, key g hg, EnsR.keep (fun b hb => set_blk9 w2 (w.heap.size + 1) 4 b _ (by have := (key0 b hb).1; omega)) key O2 g o (key g hg) hg hx⟩⟩
      go_wp2_with fail
      go_roundw
      case rel => exact ⟨i + 1, c2, A2, O2, by omega, by go_num, HOL2, HM2, HD4, HEV4⟩
      case measure => simp [intOf]; omega
    · obtain rfl : LL = i := by omega
      have hm := HM.out
      have he := Ens.drop_end l
      rw [HLL.out] at he
      rw [he, dictF] at hm
      subst hm
      have g0 : wr.cell? ⟨w.heap.size + 1, 0, none⟩ = some (.int .i64 7) := cell_of_row _ _ 0 _ _ (0, 0) HDS.out.out
      have g1 : wr.cell? ⟨w.heap.size + 1, 1, none⟩ = some (.int .i64 0) := cell_of_row _ _ 1 _ _ (0, 0) HDS.out.out
      have g2 : wr.cell? ⟨w.heap.size + 1, 2, none⟩ = some (.slice none 0 0) := cell_of_row _ _ 2 _ _ (0, 0) HDS.out.out
      have g3 : wr.cell? ⟨w.heap.size + 1, 3, none⟩ = some (.slice none 0 0) := cell_of_row _ _ 3 _ _ (0, 0) HDS.out.out
      have g4 : wr.cell? ⟨w.heap.size + 1, 4, none⟩ = some (.slice AV O.len cV) := cell_of_row _ _ 4 _ _ (0, 0) HDS.out.out
      obtain ⟨q0, q1, q2, q3, q4, q5⟩ := zero_cells HDS.out.res
      clear he hlt hww
      go_wp2_with fail
      refine bodyPost_ret (results_cell_row rfl _ _ w.heap.size 26 _ (0, 0) _ rfl (set5_row HDS.out.res) Tryd.underlying26 rfl (by kernel_rfl)) rfl ?_
      refine ⟨_, _, _, _, _, rfl, ?_, below_set5 HDS.out.low (Nat.le_refl _)⟩
      unfold ObR
      refine ⟨rfl, rfl, by omega, by omega, ⟨none, 0, 0, rfl, rfl, by omega, (fun _ h => by cases h), fun h => absurd h (by omega)⟩, ⟨none, 0, rfl, by simp [Obs.len], fun h => absurd h (by simp [Obs.len])⟩, ⟨AV, cV, rfl, HEV.out.1, fun h0 => ?_⟩⟩
      obtain ⟨g, o, e, hg, hx⟩ := HEV.out.2 h0
      have key : ∀ b, SB (w.heap.size + 2) wr b → w.heap.size ≤ b ∧ b < (((((wr.setCell ⟨w.heap.size, 0, none⟩ (.int .i64 7)).setCell ⟨w.heap.size, 1, none⟩ (.int .i64 0)).setCell ⟨w.heap.size, 2, none⟩ (.slice none 0 0)).setCell ⟨w.heap.size, 3, none⟩ (.slice none 0 0)).setCell ⟨w.heap.size, 4, none⟩ (.slice AV O.len cV)).heap.size := fun b hb => by
        rw [size_set5]
        exact ⟨by have := hb.1; omega, hb.2⟩
      exact ⟨g, o, e, key g hg, EnsR.keep (fun b hb => heap_set5 (by have := hb.1; omega)) key O g o (key g hg) hg hx⟩
end
end Go.Proofs.YtliieeagbpmcgaaDoor
