/- Chapter 10: the project's Copy. -/
import Derived.Test.YtkloipjkialakaaCx10
import Derived.Test.YtkloipjkialakaaRx10
import Derived.Outline
import Derived.LoopTactic
import Derived.Deep.LoopGhost
import Derived.Deep.CutBlock
namespace Go.Proofs.Ytkloipjkialakaa
open Go.RowKit
set_option linter.unusedVariables false
set_option maxRecDepth 100000

theorem ObR.form {w : World} {S : Nat → Prop} : ∀ {x : Ob} {c0 c1 c2 c3 c4 : Value}, ObR w S x c0 c1 c2 c3 c4 → ∃ k n A2 m2 d2 A3 m3 d3 A4 m4 d4, c0 = .int .i64 k ∧ c1 = .int .i64 n ∧ c2 = .slice A2 m2 d2 ∧ c3 = .slice A3 m3 d3 ∧ c4 = .slice A4 m4 d4
  | .mk k n b l d, c0, c1, c2, c3, c4, h => by
    unfold ObR at h
    obtain ⟨h0, h1, _, _, ⟨A, m, c, e2, _⟩, ⟨AL, cL, e3, _⟩, ⟨AD, cD, e4, _⟩⟩ := h
    exact ⟨k, n, A, m, c, AL, _, cL, AD, _, cD, h0, h1, e2, e3, e4⟩
theorem obs_new {w : World} {S : Nat → Prop} (l : Obs) {A : Option Addr} (h : 0 < l.len → ∃ g o, A = some ⟨g, o, none⟩ ∧ S g ∧ ObsR w S l g o) : ∃ cs, ObsC w S l cs ∧ cs.length = l.len * 5 ∧ (∀ u ∈ cs, u.oneCell' = true) ∧ (0 < l.len → ∃ g o, A = some ⟨g, o, none⟩ ∧ S g ∧ CellsAt w g o cs) := by
  rcases Nat.eq_zero_or_pos l.len with h0 | h0
  · cases l with
    | nil => exact ⟨[], rfl, rfl, (fun u hu => by cases hu), (fun h => by simp [Obs.len] at h)⟩
    | cons x xs => simp [Obs.len] at h0
  · obtain ⟨g, o, e, hg, hr⟩ := h h0
    obtain ⟨cs, h1, h2, h3, h4⟩ := ObsR.cs l g o hr
    exact ⟨cs, h1, h3, h4, fun _ => ⟨g, o, e, hg, h2⟩⟩
theorem ens_new {w : World} {S : Nat → Prop} (l : Ens) {A : Option Addr} (h : 0 < l.len → ∃ g o, A = some ⟨g, o, none⟩ ∧ S g ∧ EnsR w S l g o) : ∃ cs, EnsC w S l cs ∧ cs.length = l.len * 6 ∧ (∀ u ∈ cs, u.oneCell' = true) ∧ (0 < l.len → ∃ g o, A = some ⟨g, o, none⟩ ∧ S g ∧ CellsAt w g o cs) := by
  rcases Nat.eq_zero_or_pos l.len with h0 | h0
  · cases l with
    | nil => exact ⟨[], rfl, rfl, (fun u hu => by cases hu), (fun h => by simp [Ens.len] at h)⟩
    | cons s x xs => simp [Ens.len] at h0
  · obtain ⟨g, o, e, hg, hr⟩ := h h0
    obtain ⟨cs, h1, h2, h3, h4⟩ := EnsR.cs l g o hr
    exact ⟨cs, h1, h3, h4, fun _ => ⟨g, o, e, hg, h2⟩⟩
theorem cells_old {w W : World} {S : Nat → Prop} {n : Nat} {A : Option Addr} {cs : List Value} (hW : ∀ g, S g → W.heap[g]? = w.heap[g]?) (h : 0 < n → ∃ g o, A = some ⟨g, o, none⟩ ∧ S g ∧ CellsAt w g o cs) : 0 < n → ∃ g o, A = some ⟨g, o, none⟩ ∧ CellsAt W g o cs := fun h0 => by
  obtain ⟨g, o, e, hg, hc⟩ := h h0
  exact ⟨g, o, e, fun j u hj => (World.cell?_of_block (a := ⟨g, o + j, none⟩) (hW g hg)).trans (hc j u hj)⟩
theorem byt_new {w : World} {S : Nat → Prop} {A : Option Addr} {c : Nat} {b : List Int} (h : BytS w S A b.length c b) : 0 < b.length → ∃ g o, A = some ⟨g, o, none⟩ ∧ S g ∧ CellsAt w g o (b.map (Value.int .u8)) := fun h0 => by
  obtain ⟨g, o, e, hg, hc⟩ := h.2.2.2 h0
  refine ⟨g, o, e, hg, fun j u hj => ?_⟩
  have hjl := (List.getElem?_eq_some_iff.1 hj).1
  simp only [List.length_map] at hjl
  rw [hc j hjl, ← hj]
  simp [List.getD, hjl]
theorem nox_no {X : List Nat} {L : Array Bool} {p : Prop} (h : noX X L = false) : noX X L = true → p := fun h2 => by rw [h] at h2; cases h2
set_option maxHeartbeats 16000000 in
theorem pCopyC (KM W : Nat) (x : Ob) (hW : wdO W x) (hK : W * htO x ≤ KM) (hKm : KM ≤ 1000000000) (S : Nat → Prop) (w : World) (c0 c1 c2 c3 c4 : Value) (hx : ObR w S x c0 c1 c2 c3 c4) (hS : ∀ g, S g → g < w.heap.size) :
    Calls Try.prog 22 #[.agg #[c0, c1, c2, c3, c4]] w (CpP w x) := by
  have HST := Lib.hid (CyS.start hx hS hW hK)
  have HS := Lib.hid hS
  clear hx hW hK
  go_enter Try.func22, Try.ntmps22
  go_wp2_with fail
  go_loopg [3] x.sz (fun gm sv wr => ∃ (v : Value) (P : List Sp), sv = v ∧ spSum P ≤ gm ∧ Hid (CyS w wr S v P x KM W))
  case atStart => exact ⟨_, _, rfl, by simp [spSum], HST⟩
  case round =>
    clear HST
    obtain ⟨v, P, rfl, hgm, HC⟩ := hrel
    obtain ⟨AV, cV, hv⟩ := HC.out.own.shape
    rcases List.eq_nil_or_concat P with hP | ⟨P0, p, hP⟩
    · subst hP
      simp only [List.map_nil, List.length_nil] at hv
      subst hv
      obtain ⟨e0, e1, e2, e3, e4, ⟨f0, f1, f2, f3, f4⟩, hob⟩ := HC.out.wand wr (Nat.le_refl _) (fun _ _ _ _ _ _ => rfl) (fun p hp => by cases hp)
      have HR := Lib.hid HC.out.res
      have HL := Lib.hid HC.out.low
      obtain ⟨k, n, A2, m2, d2, A3, m3, d3, A4, m4, d4, rfl, rfl, rfl, rfl, rfl⟩ := hob.form
      have HOB := Lib.hid hob
      obtain ⟨q0, q1, q2, q3, q4, q5⟩ := zero_cells HR.out
      dsimp only at f0 f1 f2 f3 f4
      rw [Nat.zero_add] at f1 f2 f3 f4
      clear hob HC
      go_wp2_with fail
      refine bodyPost_ret (results_cell_row rfl _ _ (w.heap.size + 1) 27 _ (0, 0) _ rfl (set5_row HR.out) Try.underlying27 rfl (by kernel_rfl)) rfl ?_
      exact ⟨_, _, _, _, _, rfl, ObR.keep (fun g hg => heap_set5 hg.2.2) (fun g hg => ⟨hg.1, by rw [size_set5]; exact hg.2.1⟩) _ HOB.out, below_set5 HL.out (Nat.le_succ _)⟩
    · have hP : P = P0 ++ [p] := by simpa using hP
      subst hP
      obtain ⟨m, hm⟩ : ∃ m, P0.length = m := ⟨_, rfl⟩
      have hvl : ((P0 ++ [p]).map spPtr).length = m + 1 := by simp [hm]
      rw [hvl] at hv
      have hcell := HC.out.own.cell (by rw [hvl]; omega)
      obtain ⟨gS, cS, hvS, hgS, hptr⟩ := hcell
      rw [hvl] at hvS
      rw [hv] at hvS
      injection hvS with hA hn hc
      subst hA hc
      subst hv
      have hc := hptr m (by rw [hvl]; omega)
      have hpe : ((P0 ++ [p]).map spPtr)[m]'(by rw [hvl]; omega) = spPtr p := by
        subst hm
        simp
      rw [hpe] at hc
      obtain ⟨⟨e0, e1, e2, e3, e4, hfive, hob⟩, hpg, hpg1, hpo, hpsh⟩ := HC.out.pend p (by simp)
      have hbnd := HC.out.bound m p (by subst hm; simp)
      have hcap : m + 1 ≤ cV := by
        have h1 := HC.out.own
        unfold OwnV at h1
        rw [hvl] at h1
        exact (row_cap h1).1
      have hOV1 := HC.out.own
      rw [show (P0 ++ [p]).map spPtr = P0.map spPtr ++ [spPtr p] by simp] at hOV1
      have hOVP := hOV1.pop (by simp [hm])
      clear hOV1
      obtain ⟨g, o, k, n, b, l, d⟩ := p
      dsimp only [spPtr] at hob hpg hpg1 hpo hpsh hbnd hc
      unfold ObR at hob
      obtain ⟨rfl, rfl, hk, hn, ⟨A2, m2, c2, rfl, hB⟩, ⟨A3, c3, rfl, h3, hl⟩, ⟨A4, c4, rfl, h4, hd⟩⟩ := hob
      have hm2 : b.length = m2 := hB.1
      subst hm2
      have hmb : m + (l.len + d.len) ≤ KM := by
        have h1 := hbnd.1
        have h2 := hbnd.2
        rw [htO] at h1
        unfold wdO at h2
        have h5 := Nat.mul_le_mul_left W (show 1 ≤ 1 + max (htL l) (htE d) by omega)
        omega
      have hbl : b.length ≤ 100000000 := by have h2 := hbnd.2; unfold wdO at h2; exact h2.1
      obtain ⟨csl, hLC, hLl, hL1, hLc⟩ := obs_new l hl
      obtain ⟨csd, hDC, hDl, hD1, hDc⟩ := ens_new d hd
      have HCB := Lib.hid (fun (Wx : World) (hW : ∀ g, S g → Wx.heap[g]? = wr.heap[g]?) => anewB A2 b.length c2 (b.map (Value.int .u8)) Wx (by simp) (cells_old hW (byt_new hB)) (fun u hu => by obtain ⟨z, _, rfl⟩ := List.mem_map.1 hu; rfl) (by omega))
      have HCO := Lib.hid (fun (Wx : World) (hW : ∀ g, S g → Wx.heap[g]? = wr.heap[g]?) => anewO A3 l.len c3 csl Wx hLl (cells_old hW hLc) hL1 (by omega))
      have HCE := Lib.hid (fun (Wx : World) (hW : ∀ g, S g → Wx.heap[g]? = wr.heap[g]?) => anewE A4 d.len c4 csd Wx hDl (cells_old hW hDc) hD1 (by omega))
      have HSR : Hid (∀ g, S g → g < wr.heap.size) := Lib.hid (fun g hg => by have := HS.out g hg; have := HC.out.low.size; omega)
      have HLC := Lib.hid hLC
      have HDC := Lib.hid hDC
      have HBR := Lib.hid hB.2.2.1
      have HKN := Lib.hid (And.intro hk hn)
      have HFV := Lib.hid hfive
      have HPO := Lib.hid hpo
      have HSH := Lib.hid hpsh
      have HOVP := Lib.hid hOVP
      have HM := Lib.hid hm
      have HGM := Lib.hid hgm
      have HGL : Hid (g < wr.heap.size) := Lib.hid (by obtain ⟨cur, T, e⟩ := hpsh; exact row_lt _ _ _ e)
      obtain ⟨f0, f1, f2, f3, f4⟩ := hfive
      dsimp only at f0 f1 f2 f3 f4
      have HEL : Hid (∀ Wx, Below wr.heap.size wr Wx → Wx.cell? ⟨g, o + 2, none⟩ = some (.slice A2 b.length c2) ∧ Wx.cell? ⟨g, o + 3, none⟩ = some (.slice A3 l.len c3) ∧ Wx.cell? ⟨g, o + 4, none⟩ = some (.slice A4 d.len c4) ∧ Wx.cell? ⟨g, o, none⟩ = some (.int .i64 k) ∧ Wx.cell? ⟨g, o + 1, none⟩ = some (.int .i64 n) ∧ (∀ i, Wx.frozen? ⟨g, i, none⟩ = false)) := Lib.hid (fun Wx hW => by
        have e := fun j => World.cell?_of_block (a := ⟨g, j, none⟩) (hW.block g HGL.out)
        refine ⟨(e _).trans f2, (e _).trans f3, (e _).trans f4, (e _).trans f0, (e _).trans f1, fun i => ?_⟩
        obtain ⟨cur, T, e⟩ := HSH.out
        have e2 := (hW.block g HGL.out).trans e
        simp [World.frozen?, e2])
      have hm1 : (m : Int) + 1 ≤ 10000000000 := by omega
      have hm3 : (m : Int) < cV := by omega
      have e3 : ¬ ((m : Int) + 1 = 0) := by omega
      clear hptr hgS hpe hvl hbnd hOVP hB hl hd hLC hLl hL1 hLc hDC hDl hD1 hDc hpsh hpo hk hn h3 h4 hgm hS
      go_upto_region 5 with fail
      refine wp_region_heldX (fun w' => w'.cell? ⟨g, o + 2, none⟩ = some (.slice A2 b.length c2) ∧ w'.cell? ⟨g, o + 3, none⟩ = some (.slice A3 l.len c3) ∧ w'.cell? ⟨g, o + 4, none⟩ = some (.slice A4 d.len c4)) [20, 23, 26] (by kernel_rfl) ⟨f2, f3, f4⟩ (fun hHeld => ?_)
      refine wpAnyX_pure 0 rfl (by kernel_rfl) (by kernel_rfl) (by kernel_rfl) (by kernel_rfl) (fun _ _ _ h => h) (by rfl) (v := ?_) ?_ (fun _ => hHeld) ?_
      rotate_left
      focus
        intro wS
        go_simp
        try with_reducible rfl
      try simp only [Act.put, List.setIfInBounds_toArray, List.set_cons_zero, List.set_cons_succ]
      refine wpAnyX_pure 1 rfl (by kernel_rfl) (by kernel_rfl) (by kernel_rfl) (by kernel_rfl) (fun _ _ _ h => h) (by rfl) (v := ?_) ?_ (fun _ => hHeld) ?_
      rotate_left
      focus
        intro wS
        go_simp
        try with_reducible rfl
      try simp only [Act.put, List.setIfInBounds_toArray, List.set_cons_zero, List.set_cons_succ]
      refine wpAnyX_pure 2 rfl (by kernel_rfl) (by kernel_rfl) (by kernel_rfl) (by kernel_rfl) (fun _ _ _ h => h) (by rfl) (v := ?_) ?_ (fun _ => hHeld) ?_
      rotate_left
      focus
        intro wS
        go_simp
        try with_reducible rfl
      try simp only [Act.put, List.setIfInBounds_toArray, List.set_cons_zero, List.set_cons_succ]
      refine wpAnyX_pure 3 rfl (by kernel_rfl) (by kernel_rfl) (by kernel_rfl) (by kernel_rfl) (fun _ _ _ h => h) (by rfl) (v := ?_) ?_ (fun _ => hHeld) ?_
      rotate_left
      focus
        intro wS
        go_simp
        try with_reducible rfl
      try simp only [Act.put, List.setIfInBounds_toArray, List.set_cons_zero, List.set_cons_succ]
      refine wpAnyX_pure 4 rfl (by kernel_rfl) (by kernel_rfl) (by kernel_rfl) (by kernel_rfl) (fun _ _ _ h => h) (by rfl) (v := ?_) ?_ (fun _ => hHeld) ?_
      rotate_left
      focus
        intro wS
        go_simp
        try with_reducible rfl
      try simp only [Act.put, List.setIfInBounds_toArray, List.set_cons_zero, List.set_cons_succ]
      refine wpAnyX_pure 5 rfl (by kernel_rfl) (by kernel_rfl) (by kernel_rfl) (by kernel_rfl) (fun _ _ _ h => h) (by rfl) (v := ?_) ?_ (fun _ => hHeld) ?_
      rotate_left
      focus
        intro wS
        go_simp
        try with_reducible rfl
      try simp only [Act.put, List.setIfInBounds_toArray, List.set_cons_zero, List.set_cons_succ]
      refine wpAnyX_take 6 rfl (by kernel_rfl) (by kernel_rfl) (by kernel_rfl) (by kernel_rfl) (by kernel_rfl) (by kernel_rfl) (fun _ _ _ h => h) (by rfl) (v := ?_) ?_ hHeld ?_
      rotate_left
      focus
        intro wS hSw
        (try dsimp only at hSw)
        go_simp
        try with_reducible rfl
      intro hHeld
      try simp only [Act.put, List.setIfInBounds_toArray, List.set_cons_zero, List.set_cons_succ]
      refine wpAnyX_pure 8 rfl (by kernel_rfl) (by kernel_rfl) (by kernel_rfl) (by kernel_rfl) (fun _ _ _ h => h) (by rfl) (v := ?_) ?_ (fun _ => hHeld) ?_
      rotate_left
      focus
        intro wS
        go_simp
        try with_reducible rfl
      try simp only [Act.put, List.setIfInBounds_toArray, List.set_cons_zero, List.set_cons_succ]
      refine wpAnyX_pure 9 rfl (by kernel_rfl) (by kernel_rfl) (by kernel_rfl) (by kernel_rfl) (fun _ _ _ h => h) (by rfl) (v := ?_) ?_ (fun _ => hHeld) ?_
      rotate_left
      focus
        intro wS
        go_simp
        try with_reducible rfl
      try simp only [Act.put, List.setIfInBounds_toArray, List.set_cons_zero, List.set_cons_succ]
      refine wpAnyX_pure 10 rfl (by kernel_rfl) (by kernel_rfl) (by kernel_rfl) (by kernel_rfl) (fun _ _ _ h => h) (by rfl) (v := ?_) ?_ (fun _ => hHeld) ?_
      rotate_left
      focus
        intro wS
        go_simp
        try with_reducible rfl
      try simp only [Act.put, List.setIfInBounds_toArray, List.set_cons_zero, List.set_cons_succ]
      refine wpAnyX_take 11 rfl (by kernel_rfl) (by kernel_rfl) (by kernel_rfl) (by kernel_rfl) (by kernel_rfl) (by kernel_rfl) (fun _ _ _ h => h) (by rfl) (v := ?_) ?_ hHeld ?_
      rotate_left
      focus
        intro wS hSw
        (try dsimp only at hSw)
        go_simp
        try with_reducible rfl
      intro hHeld
      try simp only [Act.put, List.setIfInBounds_toArray, List.set_cons_zero, List.set_cons_succ]
      refine wpAnyX_pure 13 rfl (by kernel_rfl) (by kernel_rfl) (by kernel_rfl) (by kernel_rfl) (fun _ _ _ h => h) (by rfl) (v := ?_) ?_ (fun _ => hHeld) ?_
      rotate_left
      focus
        intro wS
        go_simp
        try with_reducible rfl
      try simp only [Act.put, List.setIfInBounds_toArray, List.set_cons_zero, List.set_cons_succ]
      refine wpAnyX_pure 14 rfl (by kernel_rfl) (by kernel_rfl) (by kernel_rfl) (by kernel_rfl) (fun _ _ _ h => h) (by rfl) (v := ?_) ?_ (fun _ => hHeld) ?_
      rotate_left
      focus
        intro wS
        go_simp
        try with_reducible rfl
      try simp only [Act.put, List.setIfInBounds_toArray, List.set_cons_zero, List.set_cons_succ]
      refine wpAnyX_pure 15 rfl (by kernel_rfl) (by kernel_rfl) (by kernel_rfl) (by kernel_rfl) (fun _ _ _ h => h) (by rfl) (v := ?_) ?_ (fun _ => hHeld) ?_
      rotate_left
      focus
        intro wS
        go_simp
        try with_reducible rfl
      try simp only [Act.put, List.setIfInBounds_toArray, List.set_cons_zero, List.set_cons_succ]
      refine wpAnyX_take 16 rfl (by kernel_rfl) (by kernel_rfl) (by kernel_rfl) (by kernel_rfl) (by kernel_rfl) (by kernel_rfl) (fun _ _ _ h => h) (by rfl) (v := ?_) ?_ hHeld ?_
      rotate_left
      focus
        intro wS hSw
        (try dsimp only at hSw)
        go_simp
        try with_reducible rfl
      intro hHeld
      try simp only [Act.put, List.setIfInBounds_toArray, List.set_cons_zero, List.set_cons_succ]
      refine wpAnyX_step 7 rfl (by kernel_rfl) (fun K hK => ?_)
      go_simp
      go_at_call 50
      with_reducible refine (HCB.out wr.drew (fun _ _ => rfl)).mono ?_
      rintro r W2 ⟨Ab, cb, rfl, o1, b1', _⟩
      have b1 : Below wr.heap.size wr W2 := ⟨b1'.os, b1'.tape, b1'.output, b1'.size, b1'.block⟩
      have HO1 := Lib.hid (show W2.ownsRow wr.heap.size 5 1 (.slice Ab b.length cb) b.length (b.map (Value.int .u8)) from o1)
      have HB1 := Lib.hid b1
      clear o1 b1' b1
      go_wp2_with fail
      have hHeld := (show _ ∧ _ ∧ _ from (⟨(HEL.out W2 HB1.out).1, (HEL.out W2 HB1.out).2.1, (HEL.out W2 HB1.out).2.2.1⟩))
      refine hK.out _ _ hHeld ?_
      clear hK K
      try simp only [Act.put, List.setIfInBounds_toArray, List.set_cons_zero, List.set_cons_succ]
      refine wpAnyX_step 12 rfl (by kernel_rfl) (fun K hK => ?_)
      go_simp
      go_at_call 51
      with_reducible refine (HCO.out W2 (fun g hg => HB1.out.block g (HSR.out g hg))).mono ?_
      rintro r W3 ⟨Al, cl, rfl, o2, b2, _⟩
      have HO2 := Lib.hid o2
      have HB2 := Lib.hid b2
      have HB12 := Lib.hid (HB1.out.trans (b2.mono HB1.out.size))
      clear o2 b2
      go_wp2_with fail
      have hHeld := (show _ ∧ _ ∧ _ from (⟨(HEL.out W3 HB12.out).1, (HEL.out W3 HB12.out).2.1, (HEL.out W3 HB12.out).2.2.1⟩))
      refine hK.out _ _ hHeld ?_
      clear hK K
      try simp only [Act.put, List.setIfInBounds_toArray, List.set_cons_zero, List.set_cons_succ]
      refine wpAnyX_step 17 rfl (by kernel_rfl) (fun K hK => ?_)
      go_simp
      go_at_call 52
      with_reducible refine (HCE.out W3 (fun g hg => HB12.out.block g (HSR.out g hg))).mono ?_
      rintro r W4 ⟨Ad, cd, rfl, o3, b3, _⟩
      have HO3 := Lib.hid o3
      have HB3 := Lib.hid b3
      have HB13 := Lib.hid (HB12.out.trans (b3.mono HB12.out.size))
      clear o3 b3
      go_wp2_with fail
      have hHeld := (show _ ∧ _ ∧ _ from (⟨(HEL.out W4 HB13.out).1, (HEL.out W4 HB13.out).2.1, (HEL.out W4 HB13.out).2.2.1⟩))
      refine hK.out _ _ hHeld ?_
      clear hK K
      try simp only [Act.put, List.setIfInBounds_toArray, List.set_cons_zero, List.set_cons_succ]
      obtain ⟨t2, t3, t4, t0, t1, fz⟩ := HEL.out W4 HB13.out
      refine wpAnyX_pure 18 rfl (by kernel_rfl) (by kernel_rfl) (by kernel_rfl) (by kernel_rfl) (fun _ _ _ h => h) (by rfl) (v := ?_) ?_ (fun _ => hHeld) ?_
      rotate_left
      focus
        intro wS
        go_simp
        try with_reducible rfl
      try simp only [Act.put, List.setIfInBounds_toArray, List.set_cons_zero, List.set_cons_succ]
      refine wpAnyX_pure 19 rfl (by kernel_rfl) (by kernel_rfl) (by kernel_rfl) (by kernel_rfl) (fun _ _ _ h => h) (by rfl) (v := ?_) ?_ (fun _ => hHeld) ?_
      rotate_left
      focus
        intro wS
        go_simp
        try with_reducible rfl
      try simp only [Act.put, List.setIfInBounds_toArray, List.set_cons_zero, List.set_cons_succ]
      refine wpAnyX_store 20 rfl (by kernel_rfl) (by kernel_rfl) (fun K hK => ?_)
      go_simp
      refine hK.out _ _ ?_
      clear hK K
      try simp only [Act.put, List.setIfInBounds_toArray, List.set_cons_zero, List.set_cons_succ]
      refine wpAnyX_pure 21 rfl (by kernel_rfl) (by kernel_rfl) (by kernel_rfl) (by kernel_rfl) (fun _ _ _ h => h) (by rfl) (v := ?_) ?_ (nox_no (by kernel_rfl)) ?_
      rotate_left
      focus
        intro wS
        go_simp
        try with_reducible rfl
      try simp only [Act.put, List.setIfInBounds_toArray, List.set_cons_zero, List.set_cons_succ]
      refine wpAnyX_pure 22 rfl (by kernel_rfl) (by kernel_rfl) (by kernel_rfl) (by kernel_rfl) (fun _ _ _ h => h) (by rfl) (v := ?_) ?_ (nox_no (by kernel_rfl)) ?_
      rotate_left
      focus
        intro wS
        go_simp
        try with_reducible rfl
      try simp only [Act.put, List.setIfInBounds_toArray, List.set_cons_zero, List.set_cons_succ]
      refine wpAnyX_store 23 rfl (by kernel_rfl) (by kernel_rfl) (fun K hK => ?_)
      go_simp
      refine hK.out _ _ ?_
      clear hK K
      try simp only [Act.put, List.setIfInBounds_toArray, List.set_cons_zero, List.set_cons_succ]
      refine wpAnyX_pure 24 rfl (by kernel_rfl) (by kernel_rfl) (by kernel_rfl) (by kernel_rfl) (fun _ _ _ h => h) (by rfl) (v := ?_) ?_ (nox_no (by kernel_rfl)) ?_
      rotate_left
      focus
        intro wS
        go_simp
        try with_reducible rfl
      try simp only [Act.put, List.setIfInBounds_toArray, List.set_cons_zero, List.set_cons_succ]
      refine wpAnyX_pure 25 rfl (by kernel_rfl) (by kernel_rfl) (by kernel_rfl) (by kernel_rfl) (fun _ _ _ h => h) (by rfl) (v := ?_) ?_ (nox_no (by kernel_rfl)) ?_
      rotate_left
      focus
        intro wS
        go_simp
        try with_reducible rfl
      try simp only [Act.put, List.setIfInBounds_toArray, List.set_cons_zero, List.set_cons_succ]
      refine wpAnyX_store 26 rfl (by kernel_rfl) (by kernel_rfl) (fun K hK => ?_)
      go_simp
      refine hK.out _ _ ?_
      clear hK K
      try simp only [Act.put, List.setIfInBounds_toArray, List.set_cons_zero, List.set_cons_succ]
      refine wpAnyX_done (by kernel_rfl) ?_
      refine NoPanic.normal ?_
      obtain ⟨gl, gd, hn3⟩ := new3_of (w := w) HBR.out HO1.out HB1.out HO2.out HB2.out HO3.out HB3.out HLC.out HDC.out
      have hst := St3.of (p := ⟨g, o, .mk k n b l d⟩) ⟨t0, t1, t2, t3, t4⟩ (by obtain ⟨cur, T, e⟩ := HSH.out; exact ⟨cur, T, (HB13.out.block g HGL.out).trans e⟩) (.slice Ab b.length cb) (.slice Al l.len cl) (.slice Ad d.len cd)
      have h5l := ((((HC.out.low.trans (HB13.out.mono HC.out.low.size)).setCell (p := ⟨g, o + 2, none⟩) hpg (.slice Ab b.length cb)).setCell (p := ⟨g, o + 3, none⟩) hpg (.slice Al l.len cl)).setCell (p := ⟨g, o + 4, none⟩) hpg (.slice Ad d.len cd))
      obtain ⟨W5, hW5⟩ : ∃ W5, ((W4.setCell ⟨g, o + 2, none⟩ (.slice Ab b.length cb)).setCell ⟨g, o + 3, none⟩ (.slice Al l.len cl)).setCell ⟨g, o + 4, none⟩ (.slice Ad d.len cd) = W5 := ⟨_, rfl⟩
      dsimp only at hst
      rw [hW5] at hst h5l ⊢
      have HN3 := Lib.hid hn3
      have H5 := Lib.hid hst
      have H5L := Lib.hid h5l
      have hz5 : wr.heap.size ≤ W5.heap.size := by rw [hst.size]; exact HB13.out.size
      have HOV5 := Lib.hid (HOVP.out.same (w' := W5) (fun b hb => by
        have h1 := HOVP.out.lt b hb
        have h2 : b ≠ g := fun e => HPO.out (by rw [← e]; exact hb)
        rw [hst.block b h2]
        exact HB13.out.block b h1.1))
      have HZ5 : Hid (g < W5.heap.size) := Lib.hid (by have := HGL.out; omega)
      have HZW : Hid (w.heap.size + 2 ≤ W5.heap.size) := Lib.hid (by have := HOVP.out.lt gS rfl; omega)
      have HLcell : Hid (∀ sv wq, KeepX (.slice (some ⟨gS, 0, none⟩) m cV) W5 sv wq → wq.cell? ⟨g, o + 3, none⟩ = some (.slice Al l.len cl) ∧ wq.cell? ⟨g, o + 4, none⟩ = some (.slice Ad d.len cd)) := Lib.hid (fun sv wq hk => by
        have e := fun j => World.cell?_of_block (a := ⟨g, j, none⟩) (hk.block g HZ5.out HPO.out)
        exact ⟨(e _).trans hst.five.2.2.2.1, (e _).trans hst.five.2.2.2.2⟩)
      obtain ⟨v3, v4⟩ := HLcell.out _ _ (KeepX.refl _ W5)
      obtain ⟨LL, hLL⟩ : ∃ LL, l.len = LL := ⟨_, rfl⟩
      obtain ⟨DD, hDD⟩ : ∃ DD, d.len = DD := ⟨_, rfl⟩
      rw [hLL] at v3 HLcell hmb
      rw [hDD] at v4 HLcell hmb
      have HLL := Lib.hid hLL
      have HDD := Lib.hid hDD
      clear hW5 hn3 hst h5l hz5 t0 t1 t2 t3 t4 fz hHeld f0 f1 f2 f3 f4 hc HEL HCB HCO HCE hLL hDD HOVP hpg hpg1
      go_wp2_with fail
      go_loopw [3, 51] (fun sv iv wq => ∃ (i cW : Nat) (AW : Option Addr), i ≤ LL ∧ iv = .int .i64 i ∧ sv = .slice AW (m + i) cW ∧ Hid (OwnV wq (w.heap.size + 2) 62 (.slice AW (m + i) cW) ((P0 ++ (obsSp gl 0 l).take i).map spPtr)) ∧ Hid (KeepX (.slice (some ⟨gS, 0, none⟩) m cV) W5 (.slice AW (m + i) cW) wq)) (fun _ iv _ => LL - (intOf iv).toNat)
      case atStart => exact ⟨0, cV, _, Nat.zero_le _, rfl, rfl, by simpa using HOV5, Lib.hid (KeepX.refl _ _)⟩
      case round =>
        obtain ⟨i, cW, AW, hi, rfl, rfl, HOV, HKX⟩ := hrel
        obtain ⟨v3', v4'⟩ := HLcell.out _ _ HKX.out
        by_cases hlt : i < LL
        · have hlz : (i : Int) < (LL : Int) := by omega
          obtain ⟨hAl, hgl, _, _⟩ := HN3.out.items (by rw [HLL.out]; omega)
          obtain ⟨oz, hoz⟩ : ∃ oz : Nat, oz = 0 := ⟨0, rfl⟩
          rw [← hoz] at hAl
          subst hAl
          have hlen : ((P0 ++ (obsSp gl 0 l).take i).map spPtr).length = m + i := by
            have := obsSp_len gl l 0
            have := HM.out
            have := HLL.out
            simp; omega
          have HAP := Lib.hid (HOV.out.lit1 gl (oz + i * 5) (by rw [hlen]; omega) (Nat.le_trans HZW.out HKX.out.size))
          rw [hlen] at HAP
          have hnx : (P0 ++ (obsSp gl 0 l).take i).map spPtr ++ [.pointer (some ⟨gl, oz + i * 5, none⟩)] = (P0 ++ (obsSp gl 0 l).take (i + 1)).map spPtr := by
            have hl2 : i < (obsSp gl 0 l).length := by rw [obsSp_len, HLL.out]; exact hlt
            obtain ⟨e1, e2, _⟩ := obsSp_get gl l 0 i _ (List.getElem?_eq_getElem hl2)
            rw [List.take_succ_eq_append_getElem hl2]
            simp only [List.map_append, List.map_cons, List.map_nil, List.append_assoc]
            congr 2
            simp only [spPtr, e1, e2, hoz]
          rw [hnx] at HAP
          have hcl : (LL : Int) ≤ cl := by have := HN3.out.lcap.1; rw [HLL.out] at this; omega
          have hmi : (m : Int) + (i : Int) ≤ 1000000000 := by omega
          clear hlen hnx hgl v4' HOV hoz
          go_wp2_with (at_builtin; obtain ⟨A6, c6, w6, hrun, ho6, hk6⟩ := HAP.out; refine Lib.wpList_append_run_sl _ rfl (.tmp 54) (.tmp 61) 63 rfl _ _ rfl rfl hrun ?_; clear hrun; have HO6 := Lib.hid ho6; have HK6 := Lib.hid (HKX.out.trans hk6); clear ho6 hk6)
          go_roundw
          case rel => exact ⟨i + 1, c6, A6, by omega, by go_num, rfl, HO6, HK6⟩
          case measure => simp [intOf]; omega
        · obtain rfl : LL = i := by omega
          rw [List.take_of_length_le (by rw [obsSp_len, HLL.out]; exact Nat.le_refl _)] at HOV
          clear v3 v4 v3' hlt
          go_wp2_with fail
          go_loopw [3, 69] (fun sv iv wq => ∃ (i cW : Nat) (AW : Option Addr), i ≤ DD ∧ iv = .int .i64 i ∧ sv = .slice AW (m + LL + i) cW ∧ Hid (OwnV wq (w.heap.size + 2) 62 (.slice AW (m + LL + i) cW) ((P0 ++ (obsSp gl 0 l ++ (ensSp gd 0 d).take i)).map spPtr)) ∧ Hid (KeepX (.slice (some ⟨gS, 0, none⟩) m cV) W5 (.slice AW (m + LL + i) cW) wq)) (fun _ iv _ => DD - (intOf iv).toNat)
          case atStart => exact ⟨0, cW, AW, Nat.zero_le _, rfl, rfl, by simpa using HOV, HKX⟩
          case round =>
            clear HOV HKX v4'
            obtain ⟨i, cX, AX, hi2, rfl, rfl, HOV, HKX⟩ := hrel
            obtain ⟨v3', v4'⟩ := HLcell.out _ _ HKX.out
            clear v3'
            by_cases hlt : i < DD
            · have hlz : (i : Int) < (DD : Int) := by omega
              obtain ⟨hAd, hgd, _, _⟩ := HN3.out.entries (by rw [HDD.out]; omega)
              obtain ⟨oz, hoz⟩ : ∃ oz : Nat, oz = 0 := ⟨0, rfl⟩
              rw [← hoz] at hAd
              subst hAd
              have hlen : ((P0 ++ (obsSp gl 0 l ++ (ensSp gd 0 d).take i)).map spPtr).length = m + LL + i := by
                have := obsSp_len gl l 0
                have := ensSp_len gd d 0
                have := HM.out
                have := HLL.out
                have := HDD.out
                simp; omega
              have HAP := Lib.hid (HOV.out.lit1 gd (oz + i * 6 + 1) (by rw [hlen]; omega) (Nat.le_trans HZW.out HKX.out.size))
              rw [hlen] at HAP
              have hnx : (P0 ++ (obsSp gl 0 l ++ (ensSp gd 0 d).take i)).map spPtr ++ [.pointer (some ⟨gd, oz + i * 6 + 1, none⟩)] = (P0 ++ (obsSp gl 0 l ++ (ensSp gd 0 d).take (i + 1))).map spPtr := by
                have hl2 : i < (ensSp gd 0 d).length := by rw [ensSp_len, HDD.out]; exact hlt
                obtain ⟨e1, e2, _⟩ := ensSp_get gd d 0 i _ (List.getElem?_eq_getElem hl2)
                rw [List.take_succ_eq_append_getElem hl2]
                simp only [List.map_append, List.map_cons, List.map_nil, List.append_assoc]
                congr 3
                simp only [spPtr, e1, e2, hoz]
              rw [hnx] at HAP
              have hcl : (DD : Int) ≤ cd := by have := HN3.out.dcap.1; rw [HDD.out] at this; omega
              have hmi : (m : Int) + (LL : Int) + (i : Int) ≤ 1000000000 := by omega
              clear hlen hnx hgd HOV hoz
              go_wp2_with (at_builtin; obtain ⟨A6, c6, w6, hrun, ho6, hk6⟩ := HAP.out; refine Lib.wpList_append_run_sl _ rfl (.tmp 72) (.tmp 80) 63 rfl _ _ rfl rfl hrun ?_; clear hrun; have HO6 := Lib.hid ho6; have HK6 := Lib.hid (HKX.out.trans hk6); clear ho6 hk6)
              go_roundw
              case rel => exact ⟨i + 1, c6, A6, by omega, by go_num, rfl, HO6, HK6⟩
              case measure => simp [intOf]; omega
            · obtain rfl : DD = i := by omega
              rw [List.take_of_length_le (by rw [ensSp_len, HDD.out]; exact Nat.le_refl _)] at HOV
              clear v4' hlt
              go_wp2_with fail
              go_roundg (spSum (P0 ++ (obsSp gl 0 l ++ ensSp gd 0 d)))
              case measure =>
                have h1 := HGM.out
                rw [spSum_app] at h1 ⊢
                rw [spSum_app, spSum_obs, spSum_ens]
                simp only [spSum, Ob.sz] at h1
                omega
              case rel =>
                exact ⟨_, _, rfl, Nat.le_refl _, Lib.hid (CyS.step (vp := .slice (some ⟨gS, 0, none⟩) m cV) HC.out HS.out rfl HKN.out.1 HKN.out.2 HN3.out H5.out H5L.out rfl HKX.out HOV.out)⟩
end Go.Proofs.Ytkloipjkialakaa
