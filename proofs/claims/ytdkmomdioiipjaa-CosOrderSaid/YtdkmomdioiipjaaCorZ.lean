/- CosOrder: entries of unlike keys make the same dictionary in whatever order; each is got by its key. No condition on the input. -/
import Derived.Test.YtdkmomdioiipjaaCor26
namespace Go.Proofs.Ytdkmomdioiipjaa
open Go.ChangeShapes Go.WideShapes Go.ChangeAt Go.RowKit Go.Deep
set_option linter.unusedVariables false
set_option maxRecDepth 100000
def xdO (l : Ens) : Ob := .mk 7 0 [] .nil (dictF l .nil)
def PrO (N : Nat) (l : Ens) (A : Option Addr) (cap LL n : Nat) : Nat → (Nat → Value) → Zone → World → Prop
  | 0, V, _, _ => V 0 = .slice A LL cap
  | 1, V, z, w => gotZ (xdO l) (V 1) z w
  | 2, V, z, w => ownZ N (V 2) z w .nil
  | 3, V, _, _ => V 3 = .slice A LL cap
  | 4, V, _, _ => V 4 = .int .i64 (n : Int)
  | 5, V, _, _ => V 5 = .slice (cutE A cap n) (LL - n) (cap - n)
  | 6, V, z, w => ownZ N (V 6) z w (l.dropN n)
  | 7, V, _, _ => V 7 = .slice A LL cap
  | 8, V, _, _ => V 8 = .int .i64 (n : Int)
  | 9, V, _, _ => V 9 = .slice (cutE A cap 0) n cap
  | 10, V, z, w => ownZ N (V 10) z w (turnE l n)
  | 11, V, z, w => gotZ (xdO l) (V 11) z w
  | 12, V, z, w => boxZ (V 12) z w
  | 13, V, z, w => boxZ (V 13) z w
  | 14, V, z, w => heldZ (V 1) (V 12) z w
  | 15, V, z, w => heldZ (V 11) (V 13) z w
  | _, _, _, _ => True
def depO : Nat → List Nat
  | 14 => [12, 1]
  | 15 => [13, 11]
  | i => [i]
def eatO : Nat → Option Nat
  | 2 => some 6
  | 6 => some 10
  | 12 => some 14
  | 13 => some 15
  | _ => none
theorem locO (N : Nat) (l : Ens) (A : Option Addr) (cap LL n : Nat) : ∀ i V V' z w, (∀ j ∈ depO i, V j = V' j) → PrO N l A cap LL n i V z w → PrO N l A cap LL n i V' z w := fun i V V' z w h hp => by
  match i with
  | 0 => have e := h 0 (List.mem_singleton.2 rfl); have hq : V 0 = .slice A LL cap := hp; rw [e] at hq; exact hq
  | 1 => have e := h 1 (List.mem_singleton.2 rfl); have hq : gotZ (xdO l) (V 1) z w := hp; rw [e] at hq; exact hq
  | 2 => have e := h 2 (List.mem_singleton.2 rfl); have hq : ownZ N (V 2) z w .nil := hp; rw [e] at hq; exact hq
  | 3 => have e := h 3 (List.mem_singleton.2 rfl); have hq : V 3 = .slice A LL cap := hp; rw [e] at hq; exact hq
  | 4 => have e := h 4 (List.mem_singleton.2 rfl); have hq : V 4 = .int .i64 (n : Int) := hp; rw [e] at hq; exact hq
  | 5 => have e := h 5 (List.mem_singleton.2 rfl); have hq : V 5 = .slice (cutE A cap n) (LL - n) (cap - n) := hp; rw [e] at hq; exact hq
  | 6 => have e := h 6 (List.mem_singleton.2 rfl); have hq : ownZ N (V 6) z w (l.dropN n) := hp; rw [e] at hq; exact hq
  | 7 => have e := h 7 (List.mem_singleton.2 rfl); have hq : V 7 = .slice A LL cap := hp; rw [e] at hq; exact hq
  | 8 => have e := h 8 (List.mem_singleton.2 rfl); have hq : V 8 = .int .i64 (n : Int) := hp; rw [e] at hq; exact hq
  | 9 => have e := h 9 (List.mem_singleton.2 rfl); have hq : V 9 = .slice (cutE A cap 0) n cap := hp; rw [e] at hq; exact hq
  | 10 => have e := h 10 (List.mem_singleton.2 rfl); have hq : ownZ N (V 10) z w (turnE l n) := hp; rw [e] at hq; exact hq
  | 11 => have e := h 11 (List.mem_singleton.2 rfl); have hq : gotZ (xdO l) (V 11) z w := hp; rw [e] at hq; exact hq
  | 12 => have e := h 12 (List.mem_singleton.2 rfl); have hq : boxZ (V 12) z w := hp; rw [e] at hq; exact hq
  | 13 => have e := h 13 (List.mem_singleton.2 rfl); have hq : boxZ (V 13) z w := hp; rw [e] at hq; exact hq
  | 14 => have e := h 12 (List.mem_cons_self ..); have e2 := h 1 (List.mem_cons_of_mem _ (List.mem_singleton.2 rfl)); have hq : heldZ (V 1) (V 12) z w := hp; rw [e, e2] at hq; exact hq
  | 15 => have e := h 13 (List.mem_cons_self ..); have e2 := h 11 (List.mem_cons_of_mem _ (List.mem_singleton.2 rfl)); have hq : heldZ (V 11) (V 13) z w := hp; rw [e, e2] at hq; exact hq
  | _ + 16 => trivial
theorem dself (L : Nat → Bool) (i : Nat) : ∀ j ∈ [i], j = i ∨ L j = true := fun j hj => .inl (List.mem_singleton.1 hj)
theorem dict_mem : ∀ (l acc : Ens), SS acc.toL → ∀ p ∈ (dictF l acc).toL, p ∈ acc.toL ∨ p ∈ l.toL
  | .nil, acc, _, p, hp => .inl hp
  | .cons s x xs, acc, h, p, hp => by
    rw [dictF] at hp
    rcases dict_mem xs _ (with_ss s x acc _ h) p hp with h1 | h1
    · cases hb : decide (x.kind = 0) with
      | true => rw [hb, with_true] at h1; exact .inl (List.mem_filter.1 h1).1
      | false =>
        rw [hb, with_false s x acc h] at h1
        rcases List.mem_append.1 h1 with h1 | h1
        · exact .inl (List.mem_filter.1 h1).1
        · rcases List.mem_cons.1 h1 with rfl | h1
          · exact .inr (List.mem_cons_self ..)
          · exact .inl (List.mem_filter.1 h1).1
    · exact .inr (List.mem_cons_of_mem _ h1)
theorem xd_facts (l : Ens) (h : (wdE 40 l ∧ htE l ≤ 7 ∧ okE l ∧ (∀ p ∈ l.toL, 0 ≤ p.2.kind ∧ p.2.kind ≤ 9)) ∧ KeyU l.toL ∧ ∀ p ∈ l.toL, p.2.kind ≠ 0) (hl : l.len ≤ 30) (hf : ∀ p ∈ l.toL, fitO p.2) :
    (dictF l .nil).len = l.len ∧ fitO (xdO l) ∧ wdO 40 (xdO l) ∧ htO (xdO l) ≤ 8 ∧ wdE 40 (dictF l .nil) ∧ htE (dictF l .nil) ≤ 7 ∧ SS (dictF l .nil).toL := by
  have hss := dict_ss l .nil ss_nil
  have hln : (dictF l .nil).len = l.len := by
    rw [dict_len l .nil ss_nil h.2.1 h.2.2 (fun _ _ _ hq => by cases hq)]
    simp [Ens.len]
  have hm : ∀ p ∈ (dictF l .nil).toL, p ∈ l.toL := fun p hp => by
    rcases dict_mem l .nil ss_nil p hp with h1 | h1
    · cases h1
    · exact h1
  have hw : wdE 40 (dictF l .nil) := (wdE_iff 40 _).2 fun p hp => (wdE_iff 40 l).1 h.1.1 p (hm p hp)
  have hh : htE (dictF l .nil) ≤ 7 := htE_le 7 _ fun p hp => Nat.le_trans (htE_ge l p (hm p hp)) h.1.2.1
  refine ⟨hln, ?_, ?_, ?_, hw, hh, hss⟩
  · unfold xdO fitO
    refine ⟨⟨.inl rfl, .inl rfl, .inr (.inl rfl), .inl rfl⟩, by omega, hss, ?_, (fitE_iff _).2 fun p hp => hf p (hm p hp)⟩
    unfold fitL; trivial
  · unfold xdO wdO
    refine ⟨by simp, by rw [hln]; simp [Obs.len]; omega, ?_, hw⟩
    unfold wdL; trivial
  · unfold xdO
    rw [htO, htL]; omega
theorem okq_fit {l : Ens} (h : OKQ l l.len) : ∀ p ∈ l.toL, fitO p.2 := fun p hp => by
  obtain ⟨i, hi⟩ := List.getElem?_of_mem hp
  have hl := (List.getElem?_eq_some_iff.1 hi).1
  rw [Ens.toL_len] at hl
  rw [Ens.toL_get] at hi
  exact may_fit _ _ (h i hl p.1 p.2 hi).1.2.1
set_option maxHeartbeats 8000000 in
theorem corder_walk (l : Ens) (A : Option Addr) (cap : Nat) (turn : Int) (w : World) (hl : EnsV w (fun g => g < w.heap.size) l A cap) (h0 : 0 ≤ turn) (h1 : turn ≤ 255) :
    Calls Try.prog 7 #[.slice A l.len cap, .int .u8 turn] w fun e w' => e = .returned (.bool true) ∧ Below w.heap.size w w' := by
  have HEV := Lib.hid hl
  have HAW := Lib.hid (awake_any10 w)
  obtain ⟨LL, hLL⟩ : ∃ LL, l.len = LL := ⟨_, rfl⟩
  have HLL := Lib.hid hLL
  have HTN := Lib.hid (And.intro h0 h1)
  rw [hLL]
  clear hl hLL h0 h1
  by_cases h1 : 30 < LL
  · have i1 : (LL : Int) > 30 := by omega
    go_enter Try.func7, Try.ntmps7
    go_wp2_with (go_at_call 8; refine HAW.out.mono ?_; (rintro r w0 ⟨rfl, hb0⟩); have HB0 := Lib.hid hb0; clear hb0)
    go_ret
    exact ⟨rfl, HB0.out⟩
  have i1 : ¬ (LL : Int) > 30 := by omega
  have HL30 : Hid (LL ≤ 30) := Lib.hid (by omega)
  go_enter Try.func7, Try.ntmps7
  go_wp2_with (go_at_call 8; refine HAW.out.mono ?_; (rintro r w0 ⟨rfl, hb0⟩); have HB0 := Lib.hid hb0; clear hb0)
  clear i1 h1
  go_loopw [5] (fun iv wr => ∃ (i : Nat), i ≤ LL ∧ iv = .int .i64 i ∧ Hid (OKQ l i) ∧ Hid (Below w.heap.size w wr)) (fun iv _ => LL - (intOf iv).toNat)
  case atStart => exact ⟨0, Nat.zero_le _, rfl, Lib.hid (fun j h => absurd h (by omega)), HB0⟩
  case round =>
    obtain ⟨i, hi, rfl, HOK, HBE⟩ := hrel
    by_cases hlt : i < LL
    · obtain ⟨sy, y, hy⟩ := l.get_some i (by rw [HLL.out]; exact hlt)
      obtain ⟨g, o, rfl, hg, hobs⟩ := HEV.out.2 (by rw [HLL.out]; omega)
      obtain ⟨d0, d1, d2, d3, d4, ks, k0, k1, k2, k3, k4, hyr⟩ := hobs.get l g o i sy y hy
      obtain rfl := kind_c0 hyr
      have HK : Hid (∀ W, Below w.heap.size w W → W.cell? ⟨g, o + i * 6, none⟩ = some (.string sy) ∧ W.cell? ⟨g, o + i * 6 + 1, none⟩ = some (.int .i64 y.kind) ∧ W.cell? ⟨g, o + i * 6 + 2, none⟩ = some d1 ∧ W.cell? ⟨g, o + i * 6 + 3, none⟩ = some d2 ∧ W.cell? ⟨g, o + i * 6 + 4, none⟩ = some d3 ∧ W.cell? ⟨g, o + i * 6 + 5, none⟩ = some d4) := Lib.hid (fun W hW => by
        have e := fun j => World.cell?_of_block (a := ⟨g, j, none⟩) (hW.block g hg)
        exact ⟨(e _).trans ks, (e _).trans k0, (e _).trans k1, (e _).trans k2, (e _).trans k3, (e _).trans k4⟩)
      have HYR : Hid (∀ W, Below w.heap.size w W → ObR W (fun g => g < w.heap.size) y (.int .i64 y.kind) d1 d2 d3 d4) := Lib.hid (fun W hW => ObR.keep (fun b hb => hW.block b hb) (fun _ h => h) y hyr)
      have HRM0 := fun W (hW : Below w.heap.size w W) => roomC _ y (Nat.le_refl _) (fun g => g < w.heap.size) W (.int .i64 y.kind) d1 d2 d3 d4 6 40 (HYR.out W hW) (fun g hg => Nat.lt_of_lt_of_le hg hW.size) (by omega)
      have HMY0 := fun W (hW : Below w.heap.size w W) => mayTopC y (fun g => g < w.heap.size) W (.int .i64 y.kind) d1 d2 d3 d4 (HYR.out W hW) (fun g hg => Nat.lt_of_lt_of_le hg hW.size)
      obtain ⟨RM, hRM⟩ : ∃ RM, roomO y 6 40 = RM := ⟨_, rfl⟩
      obtain ⟨MY, hMY⟩ : ∃ MY, mayO y 28 = MY := ⟨_, rfl⟩
      obtain ⟨KD, hKD⟩ : ∃ KD, y.kind = KD := ⟨_, rfl⟩
      simp only [hRM] at HRM0
      simp only [hMY] at HMY0
      simp only [hKD] at HRM0 HMY0 HK
      have HRM := Lib.hid HRM0
      have HMY := Lib.hid HMY0
      have hli : (i : Int) < LL := by omega
      obtain ⟨m0, m1, m2, m3, m4, m5⟩ := HK.out wr HBE.out
      have HHY := Lib.hid hy
      have HRR := Lib.hid (And.intro hRM (And.intro hMY hKD))
      have HG := Lib.hid hg
      have HOB := Lib.hid hobs
      clear HRM0 HMY0 hRM hMY hKD hy hobs hyr hg ks k0 k1 k2 k3 k4 HYR
      by_cases hk : 200 < sy.size
      · have ik : (sy.size : Int) > 200 := by omega
        go_wp2_with fail
        go_ret
        exact ⟨rfl, HBE.out⟩
      have ik : ¬ (sy.size : Int) > 200 := by omega
      have HSZ : Hid (sy.size ≤ 200) := Lib.hid (by omega)
      cases MY
      · go_wp2_with (go_at_call 26; refine (HMY.out _ HBE.out).mono ?_; (rintro r w4 ⟨rfl, hb4⟩); have HB4 := Lib.hid (HBE.out.trans (hb4.mono HBE.out.size)); clear hb4)
        go_ret
        exact ⟨rfl, HB4.out⟩
      by_cases hkd : KD = 0
      · have ikd : (KD == 0) = true := beq_iff_eq.2 hkd
        clear hkd
        go_wp2_with (go_at_call 26; refine (HMY.out _ HBE.out).mono ?_; (rintro r w4 ⟨rfl, hb4⟩); have HB4 := Lib.hid (HBE.out.trans (hb4.mono HBE.out.size)); obtain ⟨p0, p1, p2, p3, p4, p5⟩ := HK.out _ HB4.out; clear hb4 m0 m1 m2 m3 m4 m5)
        go_ret
        exact ⟨rfl, HB4.out⟩
      have ikd : (KD == 0) = false := beq_eq_false_iff_ne.2 hkd
      have HKD := Lib.hid hkd
      clear hkd
      cases RM
      · go_wp2_with (first
          | (go_at_call 26; refine (HMY.out _ HBE.out).mono ?_; (rintro r w4 ⟨rfl, hb4⟩); have HB4 := Lib.hid (HBE.out.trans (hb4.mono HBE.out.size)); obtain ⟨p0, p1, p2, p3, p4, p5⟩ := HK.out _ HB4.out; clear hb4 m0 m1 m2 m3 m4 m5)
          | (go_at_call 25; refine (HRM.out _ HB4.out).mono ?_; (rintro r w5 ⟨rfl, hb5⟩); have HB5 := Lib.hid (HB4.out.trans (hb5.mono HB4.out.size)); clear hb5))
        go_ret
        exact ⟨rfl, HB5.out⟩
      go_wp2_with (first
        | (go_at_call 26; refine (HMY.out _ HBE.out).mono ?_; (rintro r w4 ⟨rfl, hb4⟩); have HB4 := Lib.hid (HBE.out.trans (hb4.mono HBE.out.size)); obtain ⟨p0, p1, p2, p3, p4, p5⟩ := HK.out _ HB4.out; clear hb4 m0 m1 m2 m3 m4 m5)
        | (go_at_call 25; refine (HRM.out _ HB4.out).mono ?_; (rintro r w5 ⟨rfl, hb5⟩); have HB5 := Lib.hid (HB4.out.trans (hb5.mono HB4.out.size)); clear hb5))
      clear p0 p1 p2 p3 p4 p5 ik hk ikd
      go_loopw [6] (fun kv wz => ∃ (k : Nat), k ≤ i ∧ kv = .int .i64 k ∧ Hid (∀ k', k' < k → ∀ t y', l.get? k' = some (t, y') → t ≠ sy) ∧ Hid (Below w.heap.size w wz)) (fun kv _ => i - (intOf kv).toNat)
      case atStart => exact ⟨0, Nat.zero_le _, rfl, Lib.hid (fun j h => absurd h (by omega)), HB5⟩
      case round =>
        obtain ⟨k, hki, rfl, HNE, HBZ⟩ := hrel
        by_cases hlk : k < i
        · obtain ⟨sk, x, hx⟩ := l.get_some k (by rw [HLL.out]; omega)
          obtain ⟨e0, e1, e2, e3, e4, js, j0, j1, j2, j3, j4, -⟩ := HOB.out.get l g o k sk x hx
          have cs0 : ∀ W, Below w.heap.size w W → W.cell? ⟨g, o + k * 6, none⟩ = some (.string sk) ∧ W.cell? ⟨g, o + i * 6, none⟩ = some (.string sy) := fun W hW => ⟨(World.cell?_of_block (a := ⟨g, o + k * 6, none⟩) (hW.block g HG.out)).trans js, (HK.out W hW).1⟩
          have HCS := Lib.hid cs0
          have HDR : Hid (Below w.heap.size w wr.drew) := Lib.hid HBZ.out.drew
          obtain ⟨r0, r1⟩ := HCS.out _ HDR.out
          have HHX := Lib.hid hx
          have hkk : (k : Int) < i := by omega
          have hkl : (k : Int) < LL := by omega
          clear cs0 hx js j0 j1 j2 j3 j4
          go_upto_region 13 with fail
          refine wp_region_heldR (fun W => W.cell? ⟨g, o + k * 6, none⟩ = some (.string sk) ∧ W.cell? ⟨g, o + i * 6, none⟩ = some (.string sy)) 1000 (by kernel_rfl) ⟨r0, r1⟩ (fun hHeld => ?_)
          refine wpAnyR_take 0 rfl (by kernel_rfl) (by kernel_rfl) (by kernel_rfl) (by kernel_rfl) (fun _ _ _ h => h) (by rfl) (v := ?_) ?_ (by assumption) ?_
          rotate_left
          focus
            intro wS hSw
            (try dsimp only at hSw)
            go_simp
            (try simp only [hSw])
            try with_reducible rfl
          intro hHeld
          try simp only [Act.put, List.setIfInBounds_toArray, List.set_cons_zero, List.set_cons_succ]
          refine wpAnyR_take 1 rfl (by kernel_rfl) (by kernel_rfl) (by kernel_rfl) (by kernel_rfl) (fun _ _ _ h => h) (by rfl) (v := ?_) ?_ (by assumption) ?_
          rotate_left
          focus
            intro wS hSw
            (try dsimp only at hSw)
            go_simp
            (try simp only [hSw])
            try with_reducible rfl
          intro hHeld
          try simp only [Act.put, List.setIfInBounds_toArray, List.set_cons_zero, List.set_cons_succ]
          refine wpAnyR_take 2 rfl (by kernel_rfl) (by kernel_rfl) (by kernel_rfl) (by kernel_rfl) (fun _ _ _ h => h) (by rfl) (v := ?_) ?_ (by assumption) ?_
          rotate_left
          focus
            intro wS hSw
            (try dsimp only at hSw)
            go_simp
            (try simp only [hSw])
            try with_reducible rfl
          intro hHeld
          try simp only [Act.put, List.setIfInBounds_toArray, List.set_cons_zero, List.set_cons_succ]
          refine wpAnyR_take 3 rfl (by kernel_rfl) (by kernel_rfl) (by kernel_rfl) (by kernel_rfl) (fun _ _ _ h => h) (by rfl) (v := ?_) ?_ (by assumption) ?_
          rotate_left
          focus
            intro wS hSw
            (try dsimp only at hSw)
            go_simp
            (try simp only [hSw])
            try with_reducible rfl
          intro hHeld
          try simp only [Act.put, List.setIfInBounds_toArray, List.set_cons_zero, List.set_cons_succ]
          refine wpAnyR_take 4 rfl (by kernel_rfl) (by kernel_rfl) (by kernel_rfl) (by kernel_rfl) (fun _ _ _ h => h) (by rfl) (v := ?_) ?_ (by assumption) ?_
          rotate_left
          focus
            intro wS hSw
            (try dsimp only at hSw)
            go_simp
            (try simp only [hSw])
            try with_reducible rfl
          intro hHeld
          try simp only [Act.put, List.setIfInBounds_toArray, List.set_cons_zero, List.set_cons_succ]
          refine wpAnyR_take 5 rfl (by kernel_rfl) (by kernel_rfl) (by kernel_rfl) (by kernel_rfl) (fun _ _ _ h => h) (by rfl) (v := ?_) ?_ (by assumption) ?_
          rotate_left
          focus
            intro wS hSw
            (try dsimp only at hSw)
            go_simp
            (try simp only [hSw])
            try with_reducible rfl
          intro hHeld
          try simp only [Act.put, List.setIfInBounds_toArray, List.set_cons_zero, List.set_cons_succ]
          refine wpAnyR_take 6 rfl (by kernel_rfl) (by kernel_rfl) (by kernel_rfl) (by kernel_rfl) (fun _ _ _ h => h) (by rfl) (v := ?_) ?_ (by assumption) ?_
          rotate_left
          focus
            intro wS hSw
            (try dsimp only at hSw)
            go_simp
            (try simp only [hSw])
            try with_reducible rfl
          intro hHeld
          try simp only [Act.put, List.setIfInBounds_toArray, List.set_cons_zero, List.set_cons_succ]
          refine wpAnyR_take 7 rfl (by kernel_rfl) (by kernel_rfl) (by kernel_rfl) (by kernel_rfl) (fun _ _ _ h => h) (by rfl) (v := ?_) ?_ (by assumption) ?_
          rotate_left
          focus
            intro wS hSw
            (try dsimp only at hSw)
            go_simp
            (try simp only [hSw])
            try with_reducible rfl
          intro hHeld
          try simp only [Act.put, List.setIfInBounds_toArray, List.set_cons_zero, List.set_cons_succ]
          refine wpAnyR_take 8 rfl (by kernel_rfl) (by kernel_rfl) (by kernel_rfl) (by kernel_rfl) (fun _ _ _ h => h) (by rfl) (v := ?_) ?_ (by assumption) ?_
          rotate_left
          focus
            intro wS hSw
            (try dsimp only at hSw)
            go_simp
            (try simp only [hSw])
            try with_reducible rfl
          intro hHeld
          try simp only [Act.put, List.setIfInBounds_toArray, List.set_cons_zero, List.set_cons_succ]
          refine wpAnyR_take 9 rfl (by kernel_rfl) (by kernel_rfl) (by kernel_rfl) (by kernel_rfl) (fun _ _ _ h => h) (by rfl) (v := ?_) ?_ (by assumption) ?_
          rotate_left
          focus
            intro wS hSw
            (try dsimp only at hSw)
            go_simp
            (try simp only [hSw])
            try with_reducible rfl
          intro hHeld
          try simp only [Act.put, List.setIfInBounds_toArray, List.set_cons_zero, List.set_cons_succ]
          refine wpAnyR_take 10 rfl (by kernel_rfl) (by kernel_rfl) (by kernel_rfl) (by kernel_rfl) (fun _ _ _ h => h) (by rfl) (v := ?_) ?_ (by assumption) ?_
          rotate_left
          focus
            intro wS hSw
            (try dsimp only at hSw)
            go_simp
            (try simp only [hSw])
            try with_reducible rfl
          intro hHeld
          try simp only [Act.put, List.setIfInBounds_toArray, List.set_cons_zero, List.set_cons_succ]
          refine wpAnyR_done (by kernel_rfl) ?_
          refine NoPanic.normal ?_
          clear hHeld r0 r1
          go_wp2_with fail
          · go_ret
            exact ⟨rfl, HDR.out⟩
          · rename_i hne
            have HSS : Hid (¬ sk = sy) := Lib.hid (fun e => by subst e; simp at hne)
            clear hne
            go_roundw
            case rel => exact ⟨k + 1, by omega, by go_num, Lib.hid (fun k' h t y' hy' => by
              rcases Nat.lt_or_ge k' k with h2 | h2
              · exact HNE.out k' h2 t y' hy'
              · obtain rfl : k' = k := by omega
                rw [HHX.out] at hy'
                injection hy' with hy'
                injection hy' with e1 e2
                rw [← e1]
                exact HSS.out), HDR⟩
            case measure => simp [intOf]; omega
        · obtain rfl : k = i := by omega
          have HNX : Hid (OKQ l (k + 1)) := Lib.hid (fun j hj s x hx => by
            rcases Nat.lt_or_ge j k with h | h
            · exact HOK.out j h s x hx
            · obtain rfl : j = k := by omega
              rw [HHY.out] at hx
              injection hx with hx
              injection hx with hx1 hx2
              subst hx1 hx2
              exact ⟨⟨HSZ.out, HRR.out.2.1, by rw [HRR.out.2.2]; exact HKD.out, HRR.out.1⟩, HNE.out⟩)
          clear hlk
          go_wp2_with fail
          go_roundw
          case rel => exact ⟨k + 1, by omega, by go_num, HNX, HBZ⟩
          case measure => simp [intOf]; omega
    · obtain rfl : LL = i := by omega
      clear hlt
      go_upto_region 16 with fail
      rename_i KR hKR KC hKC
      suffices hrest : ∀ (n : Nat) (u72 u73 u74 u75 u76 u77 u78 u79 : Value), n ≤ LL → KR { tmps := #[.slice A LL cap, .int .u8 turn, undef, undef, u4, .int .i64 (LL : Int), u6, .int .i64 (n : Int), undef, undef, undef, .bool true, .bool false, .slice A LL cap, .int .i64 (LL : Int), .bool (decide (30 < (LL : Int))), .int .i64 (LL : Int), .slice A LL cap, .int .i64 (LL : Int), .bool false, u20, u21, u22, u23, u24, u25, u26, u27, u28, u29, u30, u31, u32, u33, u34, u35, u36, u37, u38, u39, u40, u41, u42, u43, u44, u45, u46, u47, u48, u49, u50, u51, u52, u53, u54, u55, u56, u57, u58, u59, u60, u61, u62, u63, u64, u65, u66, u67, u68, u69, u70, u71, u72, u73, u74, u75, u76, u77, u78, u79, undef, undef, undef, undef, undef, undef, undef, undef, undef, undef, undef, undef, undef, undef, undef, undef, undef, undef, undef, undef, undef, undef, undef, undef, undef, undef, undef, undef, undef, undef, undef, undef, undef, undef, undef, undef, undef, undef, undef, undef, undef, undef, undef, undef, undef, undef, undef, undef, undef, undef, undef, undef, undef, undef, undef, undef, undef, undef, undef, undef, undef, undef, undef, undef], defers := [] } wr by
        clear hKR
        have HR := Lib.hid hrest
        clear hrest
        rcases Nat.eq_zero_or_pos LL with hz | hz
        · have i2 : ¬ (LL : Int) > 0 := by omega
          clear hz
          go_wp2
          exact HR.out 0 _ _ _ _ _ _ _ _ (Nat.zero_le _)
        · have i2 : (LL : Int) > 0 := by omega
          have htr := Int.tmod_lt_of_pos turn (show (0 : Int) < LL by omega)
          have htr0 := Int.tmod_nonneg LL HTN.out.1
          obtain ⟨n, hn⟩ : ∃ n : Nat, turn.tmod (LL : Int) = n := ⟨(turn.tmod (LL : Int)).toNat, by omega⟩
          have hnl : n < LL := by omega
          have t0 := HTN.out.1
          have t1 := HTN.out.2
          have hl0 : ¬ (LL : Int) = 0 := by omega
          clear htr htr0
          go_wp2
          exact HR.out n _ _ _ _ _ _ _ _ (Nat.le_of_lt hnl)
      intro n u72 u73 u74 u75 u76 u77 u78 u79 hnL
      refine hKR _ _ ?_
      clear hKR hKC KC KR
      have hok := HOK.out
      rw [← HLL.out] at hok
      have hall := okq_all hok HEV.out
      have hfit := okq_fit hok
      have HXD := Lib.hid (xd_facts l hall (by rw [HLL.out]; exact HL30.out) hfit)
      have HALL := Lib.hid hall
      have HOKL := Lib.hid hok
      have HEN : Hid (∀ W, Below wr.heap.size wr W → EnsV W (fun g => g < wr.heap.size) l A cap) := Lib.hid (fun W hW => by
        have hw := HBE.out.trans (hW.mono HBE.out.size)
        exact HEV.out.keep (fun g hg => hw.block g hg) (fun g hg => Nat.lt_of_lt_of_le hg HBE.out.size))
      have HD1 : Hid (∀ W, Below wr.heap.size wr W → Calls Try.prog 11 #[.slice A LL cap] W (CpP W (xdO l))) := Lib.hid (fun W hW => by
        have h := pDictC 40 l _ W A cap (HEN.out W hW) (fun g hg => Nat.lt_of_lt_of_le hg hW.size) HALL.out.1.2.2.2 HALL.out.1.1 (by rw [HLL.out]; have := HL30.out; omega) (by have := HALL.out.1.2.1; omega) (by omega)
        rw [HLL.out] at h; exact h)
      have HD2 : Hid (∀ W v, Below wr.heap.size wr W → OwnT wr.heap.size W v (turnE l n) → ∃ A' c', v = .slice A' LL c' ∧ Calls Try.prog 11 #[.slice A' LL c'] W (CpP W (xdO l))) := Lib.hid (fun W v hW ho => by
        obtain ⟨A', c', e, hev⟩ := ho.shape hW.size
        have htl : (turnE l n).len = LL := by rw [turnE_len l n (by rw [HLL.out]; exact hnL), HLL.out]
        rw [htl] at e
        refine ⟨A', c', e, ?_⟩
        have h := pDictC 40 (turnE l n) _ W A' c' hev (fun g hg => hg) (fun p hp => HALL.out.1.2.2.2 p ((turnE_mem l n p).1 hp)) ((wdE_iff 40 _).2 fun p hp => (wdE_iff 40 l).1 HALL.out.1.1 p ((turnE_mem l n p).1 hp)) (by rw [htl]; have := HL30.out; omega) (by have := htE_le 7 (turnE l n) (fun p hp => Nat.le_trans (htE_ge l p ((turnE_mem l n p).1 hp)) HALL.out.1.2.1); omega) (by omega)
        rw [htl, dict_turn l n HALL.out.2.1] at h; exact h)
      have loc := locO wr.heap.size l A cap LL n
      clear hok hall hfit
      go_upto_region 18 with fail
      refine wp_region_Z wr.heap.size (PrO wr.heap.size l A cap LL n) depO eatO rfl (by kernel_rfl) (by kernel_rfl) (by kernel_rfl) ?_ ?_
      · intro Zo L V wx i o a ho hi hdep hF hA
        have hlt : i < 16 := (List.getElem?_eq_some_iff.1 ho).1
        obtain rfl | rfl | rfl | rfl | rfl | rfl | rfl | rfl | rfl | rfl | rfl | rfl | rfl | rfl | rfl | rfl : i = 0 ∨ i = 1 ∨ i = 2 ∨ i = 3 ∨ i = 4 ∨ i = 5 ∨ i = 6 ∨ i = 7 ∨ i = 8 ∨ i = 9 ∨ i = 10 ∨ i = 11 ∨ i = 12 ∨ i = 13 ∨ i = 14 ∨ i = 15 := by omega
        · cases ho
          have e := hA.ev0 (k := 0) (by kernel_rfl) rfl
          exact wpOp_valueV (v := .slice A LL cap) (w' := wx) rfl rfl (by go_simp) ⟨_, _, rfl, hF.pure loc rfl hi (dself L _) (Stab.const rfl)⟩
        · cases ho
          have l0 := hdep ⟨0, .data⟩ (by simp) rfl
          have e := hA.ev (j := 0) rfl rfl l0
          rw [show V 0 = .slice A LL cap from hF.get l0 rfl] at e
          refine wpOp_enterV (f := 11) (args := #[.slice A LL cap]) rfl rfl (by go_simp) (HD1.out wx hF.low) ?_
          rintro r w' ⟨d0, d1, d2, d3, d4, rfl, hd, hb⟩
          exact ⟨_, rfl, _, _, rfl, hF.make loc rfl hi (dself L _) hb (gotZ.stab ⟨_, _, _, _, _, rfl, hd⟩ (Nat.le_refl _))⟩
        · cases ho
          have hzs : (wx.alloc (.cells #[] 32)).heap.size = wx.heap.size + 1 := by simp
          refine wpOp_valueV (v := .slice (some ⟨wx.heap.size, 0, none⟩) 0 0) (w' := wx.alloc (.cells #[] 32)) rfl rfl (by go_simp) ⟨_, _, rfl, hF.make loc rfl hi (dself L _) ((Below.refl _ _).alloc (Nat.le_refl _) _) (ownZ.stab ⟨⟨[], ⟨rfl, .inr ⟨wx.heap.size, 0, #[], rfl, hF.low.size, heap_alloc_new wx _, Nat.le_refl _, by decide, rfl, rfl⟩⟩, rfl⟩, fun b e => ?_⟩ (by have := hF.low.size; omega))⟩
          have e2 : some wx.heap.size = some b := e
          injection e2 with e2
          dsimp only
          omega
        · cases ho
          have e := hA.ev0 (k := 0) (by kernel_rfl) rfl
          exact wpOp_valueV (v := .slice A LL cap) (w' := wx) rfl rfl (by go_simp) ⟨_, _, rfl, hF.pure loc rfl hi (dself L _) (Stab.const rfl)⟩
        · cases ho
          have e := hA.ev0 (k := 7) (by kernel_rfl) rfl
          exact wpOp_valueV (v := .int .i64 (n : Int)) (w' := wx) rfl rfl (by go_simp) ⟨_, _, rfl, hF.pure loc rfl hi (dself L _) (Stab.const rfl)⟩
        · cases ho
          have l3 := hdep ⟨3, .data⟩ (by simp) rfl
          have l4 := hdep ⟨4, .data⟩ (by simp) rfl
          have e3 := hA.ev (j := 3) rfl rfl l3
          have e4 := hA.ev (j := 4) rfl rfl l4
          rw [show V 3 = .slice A LL cap from hF.get l3 rfl] at e3
          rw [show V 4 = .int .i64 (n : Int) from hF.get l4 rfl] at e4
          have hrun := runE_cutR wx A LL cap n hnL
          exact wpOp_valueV (v := .slice (cutE A cap n) (LL - n) (cap - n)) (w' := wx) rfl rfl (slice_run rfl e3 e4 hrun (by kernel_rfl)) ⟨_, _, rfl, hF.pure loc rfl hi (dself L _) (Stab.const rfl)⟩
        · cases ho
          have l2 := hdep ⟨2, .data⟩ (by simp) rfl
          have l5 := hdep ⟨5, .data⟩ (by simp) rfl
          have h5 : V 5 = .slice (cutE A cap n) (LL - n) (cap - n) := hF.get l5 rfl
          have h2 : ownZ wr.heap.size (V 2) (Zo 2) wx .nil := hF.getE l2 rfl hi
          obtain ⟨A', c', w', hrun, ho', hk⟩ := OwnT.many h2.1 ((HEN.out wx hF.low).cutR n (by rw [HLL.out]; exact hnL)) (by rw [Ens.drop_len, HLL.out]; simp [Ens.len]; have := HL30.out; omega) hF.low.size
          obtain ⟨z, hz⟩ := hF.own loc rfl hi (dself L _) rfl l2 h2 ho' hk (fun z w2 h => h)
          rw [Ens.drop_len, HLL.out] at hrun
          exact wpOp_appendV rfl rfl rfl (hA.evT (j := 2) rfl rfl l2) ((hA.evT (j := 5) rfl rfl l5).trans h5) hrun ⟨_, z, rfl, by rw [Ens.drop_len, HLL.out] at hz; exact hz⟩
        · cases ho
          have e := hA.ev0 (k := 0) (by kernel_rfl) rfl
          exact wpOp_valueV (v := .slice A LL cap) (w' := wx) rfl rfl (by go_simp) ⟨_, _, rfl, hF.pure loc rfl hi (dself L _) (Stab.const rfl)⟩
        · cases ho
          have e := hA.ev0 (k := 7) (by kernel_rfl) rfl
          exact wpOp_valueV (v := .int .i64 (n : Int)) (w' := wx) rfl rfl (by go_simp) ⟨_, _, rfl, hF.pure loc rfl hi (dself L _) (Stab.const rfl)⟩
        · cases ho
          have l7 := hdep ⟨7, .data⟩ (by simp) rfl
          have l8 := hdep ⟨8, .data⟩ (by simp) rfl
          have e7 := hA.ev (j := 7) rfl rfl l7
          have e8 := hA.ev (j := 8) rfl rfl l8
          rw [show V 7 = .slice A LL cap from hF.get l7 rfl] at e7
          rw [show V 8 = .int .i64 (n : Int) from hF.get l8 rfl] at e8
          have hrun := runE_cutL wx A LL cap n (by have := HEV.out.1; rw [HLL.out] at this; omega)
          exact wpOp_valueV (v := .slice (cutE A cap 0) n cap) (w' := wx) rfl rfl (slice_runH rfl e7 e8 hrun (by kernel_rfl)) ⟨_, _, rfl, hF.pure loc rfl hi (dself L _) (Stab.const rfl)⟩
        · cases ho
          have l6 := hdep ⟨6, .data⟩ (by simp) rfl
          have l9 := hdep ⟨9, .data⟩ (by simp) rfl
          have h9 : V 9 = .slice (cutE A cap 0) n cap := hF.get l9 rfl
          have h6 : ownZ wr.heap.size (V 6) (Zo 6) wx (l.dropN n) := hF.getE l6 rfl hi
          have htn : (l.takeN n).len = n := by rw [Ens.takeN_len, HLL.out]; omega
          obtain ⟨A', c', w', hrun, ho', hk⟩ := OwnT.many h6.1 ((HEN.out wx hF.low).cutL n (by rw [HLL.out]; exact hnL)) (by rw [Ens.drop_len, htn, HLL.out]; have := HL30.out; omega) hF.low.size
          obtain ⟨z, hz⟩ := hF.own loc rfl hi (dself L _) rfl l6 h6 ho' hk (fun z w2 h => h)
          rw [htn] at hrun hz
          exact wpOp_appendV rfl rfl rfl (hA.evT (j := 6) rfl rfl l6) ((hA.evT (j := 9) rfl rfl l9).trans h9) hrun ⟨_, z, rfl, hz⟩
        · cases ho
          have l10 := hdep ⟨10, .data⟩ (by simp) rfl
          have h10 : ownZ wr.heap.size (V 10) (Zo 10) wx (turnE l n) := hF.get l10 rfl
          obtain ⟨A', c', hv, hc⟩ := HD2.out wx (V 10) hF.low h10.1
          have e := hA.ev (j := 10) rfl rfl l10
          rw [hv] at e
          refine wpOp_enterV (f := 11) (args := #[.slice A' LL c']) rfl rfl (by go_simp) hc ?_
          rintro r w' ⟨d0, d1, d2, d3, d4, rfl, hd, hb⟩
          exact ⟨_, rfl, _, _, rfl, hF.make loc rfl hi (dself L _) hb (gotZ.stab ⟨_, _, _, _, _, rfl, hd⟩ (Nat.le_refl _))⟩
        · cases ho
          exact wpOp_valueV (v := .pointer (some ⟨wx.heap.size, 0, none⟩)) (w' := wx.alloc (.cells #[.int .i64 0, .int .i64 0, .slice none 0 0, .slice none 0 0, .slice none 0 0] 27)) rfl rfl (by go_simp) ⟨_, _, rfl, hF.make loc rfl hi (dself L _) ((Below.refl _ _).alloc (Nat.le_refl _) _) (boxZ.stab ⟨rfl, by simp, _, _, _, _, _, heap_alloc_new wx _⟩)⟩
        · cases ho
          exact wpOp_valueV (v := .pointer (some ⟨wx.heap.size, 0, none⟩)) (w' := wx.alloc (.cells #[.int .i64 0, .int .i64 0, .slice none 0 0, .slice none 0 0, .slice none 0 0] 27)) rfl rfl (by go_simp) ⟨_, _, rfl, hF.make loc rfl hi (dself L _) ((Below.refl _ _).alloc (Nat.le_refl _) _) (boxZ.stab ⟨rfl, by simp, _, _, _, _, _, heap_alloc_new wx _⟩)⟩
        · cases ho
          have lb := hdep ⟨12, .data⟩ (by simp) rfl
          have lv := hdep ⟨1, .data⟩ (by simp) rfl
          have e := hA.ev (j := 12) rfl rfl lb
          have e2 := hA.ev (j := 1) rfl rfl lv
          obtain ⟨hv, hlz, z0, z1, z2, z3, z4, hh⟩ : boxZ (V 12) (Zo 12) wx := hF.getE lb rfl hi
          obtain ⟨d0, d1, d2, d3, d4, hv2, hob⟩ : gotZ (xdO l) (V 1) (Zo 1) wx := hF.get lv rfl
          have hfill := fun W' hW' => hF.fill (W' := W') loc rfl hi (fun j hj => .inr (by rcases List.mem_cons.1 hj with rfl | hj; exact lb; rw [List.mem_singleton.1 hj]; exact lv)) rfl lb (b := (Zo 12).1) (d0 := d0) (d1 := d1) (d2 := d2) (d3 := d3) (d4 := d4) hW' ⟨rfl, hlz, z0, z1, z2, z3, z4, hh⟩ (fun z w2 h => by (have h2 := h; rw [← hv2, ← hv] at h2); exact h2)
          rw [hv] at e
          rw [hv2] at e2
          obtain ⟨y0, y1, y2, y3, y4, y5⟩ := row5_cells hh
          obtain ⟨k, n2, A2, m2, g2, A3, m3, g3, A4, m4, g4, rfl, rfl, rfl, rfl, rfl⟩ := hob.form
          obtain ⟨gb, hgb⟩ : ∃ gb, (Zo 12).1 = gb := ⟨_, rfl⟩
          rw [hgb] at hfill e y0 y1 y2 y3 y4 y5
          exact wpOp_skipV rfl rfl (by go_simp) ⟨undef, _, rfl, hfill _ rfl⟩
        · cases ho
          have lb := hdep ⟨13, .data⟩ (by simp) rfl
          have lv := hdep ⟨11, .data⟩ (by simp) rfl
          have e := hA.ev (j := 13) rfl rfl lb
          have e2 := hA.ev (j := 11) rfl rfl lv
          obtain ⟨hv, hlz, z0, z1, z2, z3, z4, hh⟩ : boxZ (V 13) (Zo 13) wx := hF.getE lb rfl hi
          obtain ⟨d0, d1, d2, d3, d4, hv2, hob⟩ : gotZ (xdO l) (V 11) (Zo 11) wx := hF.get lv rfl
          have hfill := fun W' hW' => hF.fill (W' := W') loc rfl hi (fun j hj => .inr (by rcases List.mem_cons.1 hj with rfl | hj; exact lb; rw [List.mem_singleton.1 hj]; exact lv)) rfl lb (b := (Zo 13).1) (d0 := d0) (d1 := d1) (d2 := d2) (d3 := d3) (d4 := d4) hW' ⟨rfl, hlz, z0, z1, z2, z3, z4, hh⟩ (fun z w2 h => by (have h2 := h; rw [← hv2, ← hv] at h2); exact h2)
          rw [hv] at e
          rw [hv2] at e2
          obtain ⟨y0, y1, y2, y3, y4, y5⟩ := row5_cells hh
          obtain ⟨k, n2, A2, m2, g2, A3, m3, g3, A4, m4, g4, rfl, rfl, rfl, rfl, rfl⟩ := hob.form
          obtain ⟨gb, hgb⟩ : ∃ gb, (Zo 13).1 = gb := ⟨_, rfl⟩
          rw [hgb] at hfill e y0 y1 y2 y3 y4 y5
          exact wpOp_skipV rfl rfl (by go_simp) ⟨undef, _, rfl, hfill _ rfl⟩
      intro Zo L V wx hall hF
      have hall' : ∀ j, j < 16 → L j = true := hall
      obtain ⟨d0, d1, d2, d3, d4, v1, hxA⟩ : gotZ (xdO l) (V 1) (Zo 1) wx := hF.get (hall' 1 (by omega)) rfl
      obtain ⟨e0, e1, e2, e3, e4, v11, hxB⟩ : gotZ (xdO l) (V 11) (Zo 11) wx := hF.get (hall' 11 (by omega)) rfl
      obtain ⟨p0, p1, p2, p3, p4, u1, v12, hz14, hhA⟩ : heldZ (V 1) (V 12) (Zo 14) wx := hF.get (hall' 14 (by omega)) rfl
      obtain ⟨q0, q1, q2, q3, q4, u11, v13, hz15, hhB⟩ : heldZ (V 11) (V 13) (Zo 15) wx := hF.get (hall' 15 (by omega)) rfl
      rw [v1] at u1
      rw [v11] at u11
      injection u1 with u1
      injection u11 with u11
      simp only [Array.mk.injEq, List.cons.injEq, and_true] at u1 u11
      obtain ⟨rfl, rfl, rfl, rfl, rfl⟩ := u1
      obtain ⟨rfl, rfl, rfl, rfl, rfl⟩ := u11
      obtain ⟨bA, hbA⟩ : ∃ bA, (Zo 14).1 = bA := ⟨_, rfl⟩
      obtain ⟨bB, hbB⟩ : ∃ bB, (Zo 15).1 = bB := ⟨_, rfl⟩
      rw [hbA] at v12 hhA
      rw [hbB] at v13 hhB
      have r1 := (hF.rng 1 (hall' 1 (by omega)) (fun c hc => by cases hc)).2.2
      have r11 := (hF.rng 11 (hall' 11 (by omega)) (fun c hc => by cases hc)).2.2
      have hxA2 : ObR wx (fun g => g < wx.heap.size) (xdO l) d0 d1 d2 d3 d4 := ObR.keep (fun _ _ => rfl) (fun g hg => by omega) _ hxA
      have hxB2 : ObR wx (fun g => g < wx.heap.size) (xdO l) e0 e1 e2 e3 e4 := ObR.keep (fun _ _ => rfl) (fun g hg => by omega) _ hxB
      have HBX := Lib.hid (HBE.out.trans (hF.low.mono HBE.out.size))
      simp only [putsF, Act.put, List.setIfInBounds_toArray, List.set_cons_zero, List.set_cons_succ, Nat.zero_add, Nat.reduceAdd]
      rw [v1, v11, v12, v13]
      have hxA3 := hxA2
      unfold xdO ObR at hxA3
      obtain ⟨rfl, rfl, -, -, ⟨A2, m2, g2, rfl, -⟩, ⟨A3, g3, rfl, -, -⟩, ⟨AD, cD, rfl, hcD, hDD⟩⟩ := hxA3
      obtain ⟨kB, nB, B2, n2, h2, B3, n3, h3, B4, n4, h4, rfl, rfl, rfl, rfl, rfl⟩ := hxB2.form
      obtain ⟨m3, hm3⟩ : ∃ m3, Obs.nil.len = m3 := ⟨_, rfl⟩
      obtain ⟨kA, hkA⟩ : ∃ kA : Int, 7 = kA := ⟨_, rfl⟩
      obtain ⟨nA, hnA⟩ : ∃ nA : Int, 0 = nA := ⟨_, rfl⟩
      have hdl : (dictF l .nil).len = LL := by rw [HXD.out.1, HLL.out]
      rw [hm3, hdl, hkA, hnA] at hhA hxA2
      rw [hdl] at hcD hDD
      rw [hm3, hdl, hkA, hnA]
      have HSA := Lib.hid (fun W (hW : Below wx.heap.size wx W) => pSameC 100000000 40 (by omega) (xdO l) (xdO l) HXD.out.2.1 HXD.out.2.1 HXD.out.2.2.1 (by have := HXD.out.2.2.2.1; omega) (Nat.le_refl _) (fun g => g < wx.heap.size) W _ _ _ _ _ _ _ _ _ _ (ObR.keep (fun g hg => hW.block g hg) (fun _ h => h) _ hxA2) (ObR.keep (fun g hg => hW.block g hg) (fun _ h => h) _ hxB2) (fun g hg => Nat.lt_of_lt_of_le hg hW.size))
      simp only [sameO_self] at HSA
      have HHA := Lib.hid hhA
      have HXA := Lib.hid hxA2
      have HDDD := Lib.hid hDD
      have HCD := Lib.hid hcD
      obtain ⟨x0, x1, x2, x3, x4, x5⟩ := row5_cells hhA
      obtain ⟨y0, y1, y2, y3, y4, y5⟩ := row5_cells hhB
      clear hall hall' hF v1 v11 v12 v13 hz14 hz15 hbA hbB r1 r11 hxA hxB hxA2 hxB2 hDD hcD hhA hhB hm3 hkA hnA hdl HD1 HD2 HEN loc HOK
      go_wp2_with (go_at_call 20; (with_reducible refine (HSA.out wx (Below.refl _ _)).mono ?_); (rintro r w6 ⟨rfl, hb6⟩); have HB6 := Lib.hid hb6; have x4' := cell_of_row _ _ 4 _ _ (0, 0) (blk_keep9 hb6 HHA.out); clear hb6 x0 x1 x2 x3 x4 y0 y1 y2 y3 y4 x5 y5)
      clear x4'
      go_loopw [10] (fun iv wz => ∃ (i : Nat), i ≤ LL ∧ iv = .int .i64 i ∧ Hid (Below wx.heap.size wx wz)) (fun iv _ => LL - (intOf iv).toNat)
      case atStart => exact ⟨0, Nat.zero_le _, rfl, HB6⟩
      case round =>
        obtain ⟨i, hi, rfl, HBZ⟩ := hrel
        by_cases hlt : i < LL
        · obtain ⟨sy, y, hy⟩ := l.get_some i (by rw [HLL.out]; exact hlt)
          obtain ⟨g, o, rfl, hg, hobs⟩ := HEV.out.2 (by rw [HLL.out]; omega)
          obtain ⟨k0, k1, k2, k3, k4, ks, j0, j1, j2, j3, j4, hyr⟩ := hobs.get l g o i sy y hy
          have HE : Hid (∀ W, Below wx.heap.size wx W → (W.cell? ⟨bA, 0, none⟩ = some (.int .i64 kA) ∧ W.cell? ⟨bA, 1, none⟩ = some (.int .i64 nA) ∧ W.cell? ⟨bA, 2, none⟩ = some (.slice A2 m2 g2) ∧ W.cell? ⟨bA, 3, none⟩ = some (.slice A3 m3 g3) ∧ W.cell? ⟨bA, 4, none⟩ = some (.slice AD LL cD)) ∧ W.cell? ⟨g, o + i * 6, none⟩ = some (.string sy) ∧ W.cell? ⟨g, o + i * 6 + 1, none⟩ = some k0 ∧ W.cell? ⟨g, o + i * 6 + 2, none⟩ = some k1 ∧ W.cell? ⟨g, o + i * 6 + 3, none⟩ = some k2 ∧ W.cell? ⟨g, o + i * 6 + 4, none⟩ = some k3 ∧ W.cell? ⟨g, o + i * 6 + 5, none⟩ = some k4) := Lib.hid (fun W hW => by
            have hw := HBX.out.trans (hW.mono HBX.out.size)
            have e := fun j => World.cell?_of_block (a := ⟨g, j, none⟩) (hw.block g hg)
            have h := (hW.block bA (row_lt _ _ _ HHA.out)).trans HHA.out
            exact ⟨⟨cell_of_row _ _ 0 _ _ (0, 0) h, cell_of_row _ _ 1 _ _ (0, 0) h, cell_of_row _ _ 2 _ _ (0, 0) h, cell_of_row _ _ 3 _ _ (0, 0) h, cell_of_row _ _ 4 _ _ (0, 0) h⟩, (e _).trans ks, (e _).trans j0, (e _).trans j1, (e _).trans j2, (e _).trans j3, (e _).trans j4⟩)
          have hym : (sy, y) ∈ l.toL := List.mem_of_getElem? ((Ens.toL_get l i).trans hy)
          have hget : getF (xdO l) sy = y := by
            show (lk (dictF l .nil).toL sy).getD zeroOb = y
            rw [dict_get l sy y HALL.out.2.1 hym (HALL.out.2.2 _ hym)]; rfl
          have HGT := Lib.hid (fun W (hW : Below wx.heap.size wx W) => pGetC 40 (xdO l) sy (fun g => g < wx.heap.size) W _ _ _ _ _ (ObR.keep (fun g hg => hW.block g hg) (fun _ h => h) _ HXA.out) (fun g hg => Nat.lt_of_lt_of_le hg hW.size) HXD.out.2.2.2.2.1 (by show 40 * htE (dictF l .nil) ≤ 1000000000; have := HXD.out.2.2.2.2.2.1; omega) (by show (dictF l .nil).len ≤ 1000000000; rw [HXD.out.1, HLL.out]; have := HL30.out; omega))
          simp only [hget] at HGT
          have HYO : Hid (∀ W, Below wx.heap.size wx W → ObR W (fun g => g < W.heap.size) y k0 k1 k2 k3 k4) := Lib.hid (fun W hW => by
            have hw := HBX.out.trans (hW.mono HBX.out.size)
            exact ObR.keep (fun b hb => hw.block b hb) (fun b hb => Nat.lt_of_lt_of_le hb hw.size) y hyr)
          have HC : Hid (Below wx.heap.size wx wr.drew) := Lib.hid HBZ.out.drew
          have HLT := Lib.hid hlt
          have hli : (i : Int) < LL := by omega
          clear hy hobs hyr ks j0 j1 j2 j3 j4 hym hget hg
          rcases Nat.eq_zero_or_pos i with hi0 | hi0
          · have gd : decide (0 < i) = false := decide_eq_false (by omega)
            have hbo : True := trivial
            have hwj : True := trivial
            have w2 : True := trivial
            have hjb : True := trivial
            clear hlt hi0 hi
            go_upto_region 24 with fail
            refine wp_region_heldR (fun W => (W.cell? ⟨bA, 0, none⟩ = some (.int .i64 kA) ∧ W.cell? ⟨bA, 1, none⟩ = some (.int .i64 nA) ∧ W.cell? ⟨bA, 2, none⟩ = some (.slice A2 m2 g2) ∧ W.cell? ⟨bA, 3, none⟩ = some (.slice A3 m3 g3) ∧ W.cell? ⟨bA, 4, none⟩ = some (.slice AD LL cD)) ∧ W.cell? ⟨g, o + i * 6, none⟩ = some (.string sy) ∧ W.cell? ⟨g, o + i * 6 + 1, none⟩ = some k0 ∧ W.cell? ⟨g, o + i * 6 + 2, none⟩ = some k1 ∧ W.cell? ⟨g, o + i * 6 + 3, none⟩ = some k2 ∧ W.cell? ⟨g, o + i * 6 + 4, none⟩ = some k3 ∧ W.cell? ⟨g, o + i * 6 + 5, none⟩ = some k4) 1000 (by kernel_rfl) (HE.out _ HC.out) (fun hHeld => ?_)
            refine wpAnyR_take 0 rfl (by kernel_rfl) (by kernel_rfl) (by kernel_rfl) (by kernel_rfl) (fun _ _ _ h => h) (by rfl) (v := ?_) ?_ (by assumption) ?_
            rotate_left
            focus
              intro wS hSw
              (try dsimp only at hSw)
              go_simp
              (try simp only [hbo])
              (try simp only [gd])
              (try simp only [hwj])
              (try simp only [w2, hjb, if_true, Int.toNat_natCast])
              try with_reducible rfl
            intro hHeld
            try simp only [Act.put, List.setIfInBounds_toArray, List.set_cons_zero, List.set_cons_succ]
            refine wpAnyR_take 1 rfl (by kernel_rfl) (by kernel_rfl) (by kernel_rfl) (by kernel_rfl) (fun _ _ _ h => h) (by rfl) (v := ?_) ?_ (by assumption) ?_
            rotate_left
            focus
              intro wS hSw
              (try dsimp only at hSw)
              go_simp
              (try simp only [hbo])
              (try simp only [gd])
              (try simp only [hwj])
              (try simp only [w2, hjb, if_true, Int.toNat_natCast])
              try with_reducible rfl
            intro hHeld
            try simp only [Act.put, List.setIfInBounds_toArray, List.set_cons_zero, List.set_cons_succ]
            refine wpAnyR_take 2 rfl (by kernel_rfl) (by kernel_rfl) (by kernel_rfl) (by kernel_rfl) (fun _ _ _ h => h) (by rfl) (v := ?_) ?_ (by assumption) ?_
            rotate_left
            focus
              intro wS hSw
              (try dsimp only at hSw)
              go_simp
              (try simp only [hbo])
              (try simp only [gd])
              (try simp only [hwj])
              (try simp only [w2, hjb, if_true, Int.toNat_natCast])
              try with_reducible rfl
            intro hHeld
            try simp only [Act.put, List.setIfInBounds_toArray, List.set_cons_zero, List.set_cons_succ]
            refine wpAnyR_take 3 rfl (by kernel_rfl) (by kernel_rfl) (by kernel_rfl) (by kernel_rfl) (fun _ _ _ h => h) (by rfl) (v := ?_) ?_ (by assumption) ?_
            rotate_left
            focus
              intro wS hSw
              (try dsimp only at hSw)
              go_simp
              (try simp only [hbo])
              (try simp only [gd])
              (try simp only [hwj])
              (try simp only [w2, hjb, if_true, Int.toNat_natCast])
              try with_reducible rfl
            intro hHeld
            try simp only [Act.put, List.setIfInBounds_toArray, List.set_cons_zero, List.set_cons_succ]
            refine wpAnyR_take 4 rfl (by kernel_rfl) (by kernel_rfl) (by kernel_rfl) (by kernel_rfl) (fun _ _ _ h => h) (by rfl) (v := ?_) ?_ (by assumption) ?_
            rotate_left
            focus
              intro wS hSw
              (try dsimp only at hSw)
              go_simp
              (try simp only [hbo])
              (try simp only [gd])
              (try simp only [hwj])
              (try simp only [w2, hjb, if_true, Int.toNat_natCast])
              try with_reducible rfl
            intro hHeld
            try simp only [Act.put, List.setIfInBounds_toArray, List.set_cons_zero, List.set_cons_succ]
            refine wpAnyR_take 5 rfl (by kernel_rfl) (by kernel_rfl) (by kernel_rfl) (by kernel_rfl) (fun _ _ _ h => h) (by rfl) (v := ?_) ?_ (by assumption) ?_
            rotate_left
            focus
              intro wS hSw
              (try dsimp only at hSw)
              go_simp
              (try simp only [hbo])
              (try simp only [gd])
              (try simp only [hwj])
              (try simp only [w2, hjb, if_true, Int.toNat_natCast])
              try with_reducible rfl
            intro hHeld
            try simp only [Act.put, List.setIfInBounds_toArray, List.set_cons_zero, List.set_cons_succ]
            refine wpAnyR_take 7 rfl (by kernel_rfl) (by kernel_rfl) (by kernel_rfl) (by kernel_rfl) (fun _ _ _ h => h) (by rfl) (v := ?_) ?_ (by assumption) ?_
            rotate_left
            focus
              intro wS hSw
              (try dsimp only at hSw)
              go_simp
              (try simp only [hbo])
              (try simp only [gd])
              (try simp only [hwj])
              (try simp only [w2, hjb, if_true, Int.toNat_natCast])
              try with_reducible rfl
            intro hHeld
            try simp only [Act.put, List.setIfInBounds_toArray, List.set_cons_zero, List.set_cons_succ]
            refine wpAnyR_take 8 rfl (by kernel_rfl) (by kernel_rfl) (by kernel_rfl) (by kernel_rfl) (fun _ _ _ h => h) (by rfl) (v := ?_) ?_ (by assumption) ?_
            rotate_left
            focus
              intro wS hSw
              (try dsimp only at hSw)
              go_simp
              (try simp only [hbo])
              (try simp only [gd])
              (try simp only [hwj])
              (try simp only [w2, hjb, if_true, Int.toNat_natCast])
              try with_reducible rfl
            intro hHeld
            try simp only [Act.put, List.setIfInBounds_toArray, List.set_cons_zero, List.set_cons_succ]
            refine wpAnyR_take 9 rfl (by kernel_rfl) (by kernel_rfl) (by kernel_rfl) (by kernel_rfl) (fun _ _ _ h => h) (by rfl) (v := ?_) ?_ (by assumption) ?_
            rotate_left
            focus
              intro wS hSw
              (try dsimp only at hSw)
              go_simp
              (try simp only [hbo])
              (try simp only [gd])
              (try simp only [hwj])
              (try simp only [w2, hjb, if_true, Int.toNat_natCast])
              try with_reducible rfl
            intro hHeld
            try simp only [Act.put, List.setIfInBounds_toArray, List.set_cons_zero, List.set_cons_succ]
            refine wpAnyR_take 10 rfl (by kernel_rfl) (by kernel_rfl) (by kernel_rfl) (by kernel_rfl) (fun _ _ _ h => h) (by rfl) (v := ?_) ?_ (by assumption) ?_
            rotate_left
            focus
              intro wS hSw
              (try dsimp only at hSw)
              go_simp
              (try simp only [hbo])
              (try simp only [gd])
              (try simp only [hwj])
              (try simp only [w2, hjb, if_true, Int.toNat_natCast])
              try with_reducible rfl
            intro hHeld
            try simp only [Act.put, List.setIfInBounds_toArray, List.set_cons_zero, List.set_cons_succ]
            refine wpAnyR_take 11 rfl (by kernel_rfl) (by kernel_rfl) (by kernel_rfl) (by kernel_rfl) (fun _ _ _ h => h) (by rfl) (v := ?_) ?_ (by assumption) ?_
            rotate_left
            focus
              intro wS hSw
              (try dsimp only at hSw)
              go_simp
              (try simp only [hbo])
              (try simp only [gd])
              (try simp only [hwj])
              (try simp only [w2, hjb, if_true, Int.toNat_natCast])
              try with_reducible rfl
            intro hHeld
            try simp only [Act.put, List.setIfInBounds_toArray, List.set_cons_zero, List.set_cons_succ]
            refine wpAnyR_step 6 rfl (by kernel_rfl) (fun K hK => ?_)
            go_simp
            go_at_call 35
            refine (HGT.out _ HC.out).mono ?_
            rintro r wA ⟨f0, f1, f2, f3, f4, rfl, hxA, hbA⟩
            have HSM : Hid (∀ W, Below wA.heap.size wA W → Calls Try.prog 34 #[.agg #[f0, f1, f2, f3, f4], .agg #[k0, k1, k2, k3, k4]] W fun r w' => r = .returned (.bool true) ∧ Below W.heap.size W w') := Lib.hid (fun W hW => same_yes y W (ObR.keep (fun g hg => hW.block g hg.2) (fun g hg => Nat.lt_of_lt_of_le hg.2 hW.size) _ hxA) (HYO.out W (HC.out.trans ((hbA.trans (hW.mono hbA.size)).mono HC.out.size))))
            have HC' := Lib.hid (HC.out.trans (hbA.mono HC.out.size))
            clear HC hbA hxA
            have HC := HC'
            clear HC'
            go_wp2_with fail
            refine hK.out _ _ (HE.out _ HC.out) (fun hHeld => ?_)
            clear hK K
            try simp only [Act.put, List.setIfInBounds_toArray, List.set_cons_zero, List.set_cons_succ]
            refine wpAnyR_step 12 rfl (by kernel_rfl) (fun K hK => ?_)
            go_simp
            go_at_call 34
            refine (HSM.out wA (Below.refl _ _)).mono ?_
            rintro r wB ⟨rfl, hbB⟩
            have HC' := Lib.hid (HC.out.trans (hbB.mono HC.out.size))
            clear HC hbB HSM
            have HC := HC'
            clear HC'
            go_wp2_with fail
            refine hK.out _ _ (HE.out _ HC.out) (fun hHeld => ?_)
            clear hK K
            try simp only [Act.put, List.setIfInBounds_toArray, List.set_cons_zero, List.set_cons_succ]
            refine wpAnyR_take 13 rfl (by kernel_rfl) (by kernel_rfl) (by kernel_rfl) (by kernel_rfl) (fun _ _ _ h => h) (by rfl) (v := ?_) ?_ (by assumption) ?_
            rotate_left
            focus
              intro wS hSw
              (try dsimp only at hSw)
              go_simp
              (try simp only [hbo])
              (try simp only [gd])
              (try simp only [hwj])
              (try simp only [w2, hjb, if_true, Int.toNat_natCast])
              try with_reducible rfl
            intro hHeld
            try simp only [Act.put, List.setIfInBounds_toArray, List.set_cons_zero, List.set_cons_succ]
            refine wpAnyR_take 14 rfl (by kernel_rfl) (by kernel_rfl) (by kernel_rfl) (by kernel_rfl) (fun _ _ _ h => h) (by rfl) (v := ?_) ?_ (by assumption) ?_
            rotate_left
            focus
              intro wS hSw
              (try dsimp only at hSw)
              go_simp
              (try simp only [hbo])
              (try simp only [gd])
              (try simp only [hwj])
              (try simp only [w2, hjb, if_true, Int.toNat_natCast])
              try with_reducible rfl
            intro hHeld
            try simp only [Act.put, List.setIfInBounds_toArray, List.set_cons_zero, List.set_cons_succ]
            refine wpAnyR_take 15 rfl (by kernel_rfl) (by kernel_rfl) (by kernel_rfl) (by kernel_rfl) (fun _ _ _ h => h) (by rfl) (v := ?_) ?_ (by assumption) ?_
            rotate_left
            focus
              intro wS hSw
              (try dsimp only at hSw)
              go_simp
              (try simp only [hbo])
              (try simp only [gd])
              (try simp only [hwj])
              (try simp only [w2, hjb, if_true, Int.toNat_natCast])
              try with_reducible rfl
            intro hHeld
            try simp only [Act.put, List.setIfInBounds_toArray, List.set_cons_zero, List.set_cons_succ]
            refine wpAnyR_take 16 rfl (by kernel_rfl) (by kernel_rfl) (by kernel_rfl) (by kernel_rfl) (fun _ _ _ h => h) (by rfl) (v := ?_) ?_ (by assumption) ?_
            rotate_left
            focus
              intro wS hSw
              (try dsimp only at hSw)
              go_simp
              (try simp only [hbo])
              (try simp only [gd])
              (try simp only [hwj])
              (try simp only [w2, hjb, if_true, Int.toNat_natCast])
              try with_reducible rfl
            intro hHeld
            try simp only [Act.put, List.setIfInBounds_toArray, List.set_cons_zero, List.set_cons_succ]
            refine wpAnyR_take 17 rfl (by kernel_rfl) (by kernel_rfl) (by kernel_rfl) (by kernel_rfl) (fun _ _ _ h => h) (by rfl) (v := ?_) ?_ (by assumption) ?_
            rotate_left
            focus
              intro wS hSw
              (try dsimp only at hSw)
              go_simp
              (try simp only [hbo])
              (try simp only [gd])
              (try simp only [hwj])
              (try simp only [w2, hjb, if_true, Int.toNat_natCast])
              try with_reducible rfl
            intro hHeld
            try simp only [Act.put, List.setIfInBounds_toArray, List.set_cons_zero, List.set_cons_succ]
            refine wpAnyR_skip 18 rfl (by kernel_rfl) (by kernel_rfl) (by kernel_rfl) (by kernel_rfl) (fun _ _ _ h => h) (by rfl) (by assumption) ?_
            intro hHeld
            try simp only [Act.put, List.setIfInBounds_toArray, List.set_cons_zero, List.set_cons_succ]
            refine wpAnyR_skip 19 rfl (by kernel_rfl) (by kernel_rfl) (by kernel_rfl) (by kernel_rfl) (fun _ _ _ h => h) (by rfl) (by assumption) ?_
            intro hHeld
            try simp only [Act.put, List.setIfInBounds_toArray, List.set_cons_zero, List.set_cons_succ]
            refine wpAnyR_skip 20 rfl (by kernel_rfl) (by kernel_rfl) (by kernel_rfl) (by kernel_rfl) (fun _ _ _ h => h) (by rfl) (by assumption) ?_
            intro hHeld
            try simp only [Act.put, List.setIfInBounds_toArray, List.set_cons_zero, List.set_cons_succ]
            refine wpAnyR_skip 21 rfl (by kernel_rfl) (by kernel_rfl) (by kernel_rfl) (by kernel_rfl) (fun _ _ _ h => h) (by rfl) (by assumption) ?_
            intro hHeld
            try simp only [Act.put, List.setIfInBounds_toArray, List.set_cons_zero, List.set_cons_succ]
            refine wpAnyR_skip 22 rfl (by kernel_rfl) (by kernel_rfl) (by kernel_rfl) (by kernel_rfl) (fun _ _ _ h => h) (by rfl) (by assumption) ?_
            intro hHeld
            try simp only [Act.put, List.setIfInBounds_toArray, List.set_cons_zero, List.set_cons_succ]
            refine wpAnyR_skip 23 rfl (by kernel_rfl) (by kernel_rfl) (by kernel_rfl) (by kernel_rfl) (fun _ _ _ h => h) (by rfl) (by assumption) ?_
            intro hHeld
            try simp only [Act.put, List.setIfInBounds_toArray, List.set_cons_zero, List.set_cons_succ]
            refine wpAnyR_skip 24 rfl (by kernel_rfl) (by kernel_rfl) (by kernel_rfl) (by kernel_rfl) (fun _ _ _ h => h) (by rfl) (by assumption) ?_
            intro hHeld
            try simp only [Act.put, List.setIfInBounds_toArray, List.set_cons_zero, List.set_cons_succ]
            refine wpAnyR_skip 25 rfl (by kernel_rfl) (by kernel_rfl) (by kernel_rfl) (by kernel_rfl) (fun _ _ _ h => h) (by rfl) (by assumption) ?_
            intro hHeld
            try simp only [Act.put, List.setIfInBounds_toArray, List.set_cons_zero, List.set_cons_succ]
            refine wpAnyR_skip 26 rfl (by kernel_rfl) (by kernel_rfl) (by kernel_rfl) (by kernel_rfl) (fun _ _ _ h => h) (by rfl) (by assumption) ?_
            intro hHeld
            try simp only [Act.put, List.setIfInBounds_toArray, List.set_cons_zero, List.set_cons_succ]
            refine wpAnyR_skip 27 rfl (by kernel_rfl) (by kernel_rfl) (by kernel_rfl) (by kernel_rfl) (fun _ _ _ h => h) (by rfl) (by assumption) ?_
            intro hHeld
            try simp only [Act.put, List.setIfInBounds_toArray, List.set_cons_zero, List.set_cons_succ]
            refine wpAnyR_skip 28 rfl (by kernel_rfl) (by kernel_rfl) (by kernel_rfl) (by kernel_rfl) (fun _ _ _ h => h) (by rfl) (by assumption) ?_
            intro hHeld
            try simp only [Act.put, List.setIfInBounds_toArray, List.set_cons_zero, List.set_cons_succ]
            refine wpAnyR_skip 29 rfl (by kernel_rfl) (by kernel_rfl) (by kernel_rfl) (by kernel_rfl) (fun _ _ _ h => h) (by rfl) (by assumption) ?_
            intro hHeld
            try simp only [Act.put, List.setIfInBounds_toArray, List.set_cons_zero, List.set_cons_succ]
            refine wpAnyR_skip 30 rfl (by kernel_rfl) (by kernel_rfl) (by kernel_rfl) (by kernel_rfl) (fun _ _ _ h => h) (by rfl) (by assumption) ?_
            intro hHeld
            try simp only [Act.put, List.setIfInBounds_toArray, List.set_cons_zero, List.set_cons_succ]
            refine wpAnyR_skip 31 rfl (by kernel_rfl) (by kernel_rfl) (by kernel_rfl) (by kernel_rfl) (fun _ _ _ h => h) (by rfl) (by assumption) ?_
            intro hHeld
            try simp only [Act.put, List.setIfInBounds_toArray, List.set_cons_zero, List.set_cons_succ]
            refine wpAnyR_take 32 rfl (by kernel_rfl) (by kernel_rfl) (by kernel_rfl) (by kernel_rfl) (fun _ _ _ h => h) (by rfl) (v := ?_) ?_ (by assumption) ?_
            rotate_left
            focus
              intro wS hSw
              (try dsimp only at hSw)
              go_simp
              (try simp only [hbo])
              (try simp only [gd])
              (try simp only [hwj])
              (try simp only [w2, hjb, if_true, Int.toNat_natCast])
              try with_reducible rfl
            intro hHeld
            try simp only [Act.put, List.setIfInBounds_toArray, List.set_cons_zero, List.set_cons_succ]
            refine wpAnyR_take 33 rfl (by kernel_rfl) (by kernel_rfl) (by kernel_rfl) (by kernel_rfl) (fun _ _ _ h => h) (by rfl) (v := ?_) ?_ (by assumption) ?_
            rotate_left
            focus
              intro wS hSw
              (try dsimp only at hSw)
              go_simp
              (try simp only [hbo])
              (try simp only [gd])
              (try simp only [hwj])
              (try simp only [w2, hjb, if_true, Int.toNat_natCast])
              try with_reducible rfl
            intro hHeld
            try simp only [Act.put, List.setIfInBounds_toArray, List.set_cons_zero, List.set_cons_succ]
            refine wpAnyR_done (by kernel_rfl) ?_
            refine NoPanic.normal ?_
            go_wp2_with fail
            go_roundw
            case rel => exact ⟨i + 1, by have := HLT.out; omega, by go_num, HC⟩
            case measure => simp [intOf]; have := HLT.out; omega
          · obtain ⟨gD, oD, rfl, hgD, hrD⟩ := HDDD.out (by omega)
            obtain ⟨j, hj⟩ : ∃ j, i - 1 = j := ⟨_, rfl⟩
            have hdl : (dictF l .nil).len = LL := by rw [HXD.out.1, HLL.out]
            obtain ⟨s1, x1, hs1⟩ := (dictF l .nil).get_some i (by rw [hdl]; exact hlt)
            obtain ⟨s0, x0, hs0⟩ := (dictF l .nil).get_some j (by rw [hdl]; omega)
            obtain ⟨-, -, -, -, -, c1, -⟩ := hrD.get _ gD oD i s1 x1 hs1
            obtain ⟨-, -, -, -, -, c0, -⟩ := hrD.get _ gD oD j s0 x0 hs0
            have hlt2 : ltS s0 s1 = true := by
              obtain rfl : i = j + 1 := by omega
              exact ss_next _ j s0 s1 x0 x1 HXD.out.2.2.2.2.2.2 hs0 hs1
            have hle : leS s1 s0 = false := Bool.eq_false_iff.2 (fun h => by
              rcases leS_lt.1 h with h2 | h2
              · have := ltS_trans hlt2 h2
                rw [ltS_irrefl] at this; cases this
              · rw [h2, ltS_irrefl] at hlt2; cases hlt2)
            have hbo : ∀ W, (binOp BinOp.leq 9 (.string s1) (.string s0)).run Try.prog W = .ok (.bool false) W := fun W => by rw [run_leS, hle]
            have HE2 : Hid (∀ W, Below wx.heap.size wx W → (((W.cell? ⟨bA, 0, none⟩ = some (.int .i64 kA) ∧ W.cell? ⟨bA, 1, none⟩ = some (.int .i64 nA) ∧ W.cell? ⟨bA, 2, none⟩ = some (.slice A2 m2 g2) ∧ W.cell? ⟨bA, 3, none⟩ = some (.slice A3 m3 g3) ∧ W.cell? ⟨bA, 4, none⟩ = some (.slice (some ⟨gD, oD, none⟩) LL cD)) ∧ W.cell? ⟨g, o + i * 6, none⟩ = some (.string sy) ∧ W.cell? ⟨g, o + i * 6 + 1, none⟩ = some k0 ∧ W.cell? ⟨g, o + i * 6 + 2, none⟩ = some k1 ∧ W.cell? ⟨g, o + i * 6 + 3, none⟩ = some k2 ∧ W.cell? ⟨g, o + i * 6 + 4, none⟩ = some k3 ∧ W.cell? ⟨g, o + i * 6 + 5, none⟩ = some k4) ∧ W.cell? ⟨gD, oD + i * 6, none⟩ = some (.string s1) ∧ W.cell? ⟨gD, oD + j * 6, none⟩ = some (.string s0))) := Lib.hid (fun W hW => ⟨HE.out W hW, (World.cell?_of_block (a := ⟨gD, oD + i * 6, none⟩) (hW.block gD hgD)).trans c1, (World.cell?_of_block (a := ⟨gD, oD + j * 6, none⟩) (hW.block gD hgD)).trans c0⟩)
            have hle2 := hle
            unfold leS at hle2
            obtain ⟨hbl, hbe⟩ := Bool.or_eq_false_iff.1 hle2
            clear hle2
            have gd : decide (0 < i) = true := decide_eq_true (by omega)
            have hij : (i : Int) - 1 = j := by omega
            have hwj : IntKind.i64.wrap ((i : Int) - 1) = j := by rw [hij]; exact IntWalk.i64_in _ (by have := HL30.out; omega)
            have w2 : IntKind.i64.wrap (j : Int) = j := IntWalk.i64_in _ (by have := HL30.out; omega)
            have hjb : (0 ≤ (j : Int) ∧ (j : Int) < (LL : Int)) = True := eq_true ⟨by omega, by omega⟩
            have hjd : (j : Int) < LL := by omega
            have HIJ := Lib.hid hij
            clear hlt hi0 hi hgD hrD hj hdl hs1 hs0 c1 c0 hlt2 hle hij
            go_upto_region 24 with fail
            refine wp_region_heldR (fun W => ((W.cell? ⟨bA, 0, none⟩ = some (.int .i64 kA) ∧ W.cell? ⟨bA, 1, none⟩ = some (.int .i64 nA) ∧ W.cell? ⟨bA, 2, none⟩ = some (.slice A2 m2 g2) ∧ W.cell? ⟨bA, 3, none⟩ = some (.slice A3 m3 g3) ∧ W.cell? ⟨bA, 4, none⟩ = some (.slice (some ⟨gD, oD, none⟩) LL cD)) ∧ W.cell? ⟨g, o + i * 6, none⟩ = some (.string sy) ∧ W.cell? ⟨g, o + i * 6 + 1, none⟩ = some k0 ∧ W.cell? ⟨g, o + i * 6 + 2, none⟩ = some k1 ∧ W.cell? ⟨g, o + i * 6 + 3, none⟩ = some k2 ∧ W.cell? ⟨g, o + i * 6 + 4, none⟩ = some k3 ∧ W.cell? ⟨g, o + i * 6 + 5, none⟩ = some k4) ∧ W.cell? ⟨gD, oD + i * 6, none⟩ = some (.string s1) ∧ W.cell? ⟨gD, oD + j * 6, none⟩ = some (.string s0)) 1000 (by kernel_rfl) (HE2.out _ HC.out) (fun hHeld => ?_)
            refine wpAnyR_take 0 rfl (by kernel_rfl) (by kernel_rfl) (by kernel_rfl) (by kernel_rfl) (fun _ _ _ h => h) (by rfl) (v := ?_) ?_ (by assumption) ?_
            rotate_left
            focus
              intro wS hSw
              (try dsimp only at hSw)
              go_simp
              (try simp only [hbo])
              (try simp only [gd])
              (try simp only [hwj])
              (try simp only [w2, hjb, if_true, Int.toNat_natCast])
              try with_reducible rfl
            intro hHeld
            try simp only [Act.put, List.setIfInBounds_toArray, List.set_cons_zero, List.set_cons_succ]
            refine wpAnyR_take 1 rfl (by kernel_rfl) (by kernel_rfl) (by kernel_rfl) (by kernel_rfl) (fun _ _ _ h => h) (by rfl) (v := ?_) ?_ (by assumption) ?_
            rotate_left
            focus
              intro wS hSw
              (try dsimp only at hSw)
              go_simp
              (try simp only [hbo])
              (try simp only [gd])
              (try simp only [hwj])
              (try simp only [w2, hjb, if_true, Int.toNat_natCast])
              try with_reducible rfl
            intro hHeld
            try simp only [Act.put, List.setIfInBounds_toArray, List.set_cons_zero, List.set_cons_succ]
            refine wpAnyR_take 2 rfl (by kernel_rfl) (by kernel_rfl) (by kernel_rfl) (by kernel_rfl) (fun _ _ _ h => h) (by rfl) (v := ?_) ?_ (by assumption) ?_
            rotate_left
            focus
              intro wS hSw
              (try dsimp only at hSw)
              go_simp
              (try simp only [hbo])
              (try simp only [gd])
              (try simp only [hwj])
              (try simp only [w2, hjb, if_true, Int.toNat_natCast])
              try with_reducible rfl
            intro hHeld
            try simp only [Act.put, List.setIfInBounds_toArray, List.set_cons_zero, List.set_cons_succ]
            refine wpAnyR_take 3 rfl (by kernel_rfl) (by kernel_rfl) (by kernel_rfl) (by kernel_rfl) (fun _ _ _ h => h) (by rfl) (v := ?_) ?_ (by assumption) ?_
            rotate_left
            focus
              intro wS hSw
              (try dsimp only at hSw)
              go_simp
              (try simp only [hbo])
              (try simp only [gd])
              (try simp only [hwj])
              (try simp only [w2, hjb, if_true, Int.toNat_natCast])
              try with_reducible rfl
            intro hHeld
            try simp only [Act.put, List.setIfInBounds_toArray, List.set_cons_zero, List.set_cons_succ]
            refine wpAnyR_take 4 rfl (by kernel_rfl) (by kernel_rfl) (by kernel_rfl) (by kernel_rfl) (fun _ _ _ h => h) (by rfl) (v := ?_) ?_ (by assumption) ?_
            rotate_left
            focus
              intro wS hSw
              (try dsimp only at hSw)
              go_simp
              (try simp only [hbo])
              (try simp only [gd])
              (try simp only [hwj])
              (try simp only [w2, hjb, if_true, Int.toNat_natCast])
              try with_reducible rfl
            intro hHeld
            try simp only [Act.put, List.setIfInBounds_toArray, List.set_cons_zero, List.set_cons_succ]
            refine wpAnyR_take 5 rfl (by kernel_rfl) (by kernel_rfl) (by kernel_rfl) (by kernel_rfl) (fun _ _ _ h => h) (by rfl) (v := ?_) ?_ (by assumption) ?_
            rotate_left
            focus
              intro wS hSw
              (try dsimp only at hSw)
              go_simp
              (try simp only [hbo])
              (try simp only [gd])
              (try simp only [hwj])
              (try simp only [w2, hjb, if_true, Int.toNat_natCast])
              try with_reducible rfl
            intro hHeld
            try simp only [Act.put, List.setIfInBounds_toArray, List.set_cons_zero, List.set_cons_succ]
            refine wpAnyR_take 7 rfl (by kernel_rfl) (by kernel_rfl) (by kernel_rfl) (by kernel_rfl) (fun _ _ _ h => h) (by rfl) (v := ?_) ?_ (by assumption) ?_
            rotate_left
            focus
              intro wS hSw
              (try dsimp only at hSw)
              go_simp
              (try simp only [hbo])
              (try simp only [gd])
              (try simp only [hwj])
              (try simp only [w2, hjb, if_true, Int.toNat_natCast])
              try with_reducible rfl
            intro hHeld
            try simp only [Act.put, List.setIfInBounds_toArray, List.set_cons_zero, List.set_cons_succ]
            refine wpAnyR_take 8 rfl (by kernel_rfl) (by kernel_rfl) (by kernel_rfl) (by kernel_rfl) (fun _ _ _ h => h) (by rfl) (v := ?_) ?_ (by assumption) ?_
            rotate_left
            focus
              intro wS hSw
              (try dsimp only at hSw)
              go_simp
              (try simp only [hbo])
              (try simp only [gd])
              (try simp only [hwj])
              (try simp only [w2, hjb, if_true, Int.toNat_natCast])
              try with_reducible rfl
            intro hHeld
            try simp only [Act.put, List.setIfInBounds_toArray, List.set_cons_zero, List.set_cons_succ]
            refine wpAnyR_take 9 rfl (by kernel_rfl) (by kernel_rfl) (by kernel_rfl) (by kernel_rfl) (fun _ _ _ h => h) (by rfl) (v := ?_) ?_ (by assumption) ?_
            rotate_left
            focus
              intro wS hSw
              (try dsimp only at hSw)
              go_simp
              (try simp only [hbo])
              (try simp only [gd])
              (try simp only [hwj])
              (try simp only [w2, hjb, if_true, Int.toNat_natCast])
              try with_reducible rfl
            intro hHeld
            try simp only [Act.put, List.setIfInBounds_toArray, List.set_cons_zero, List.set_cons_succ]
            refine wpAnyR_take 10 rfl (by kernel_rfl) (by kernel_rfl) (by kernel_rfl) (by kernel_rfl) (fun _ _ _ h => h) (by rfl) (v := ?_) ?_ (by assumption) ?_
            rotate_left
            focus
              intro wS hSw
              (try dsimp only at hSw)
              go_simp
              (try simp only [hbo])
              (try simp only [gd])
              (try simp only [hwj])
              (try simp only [w2, hjb, if_true, Int.toNat_natCast])
              try with_reducible rfl
            intro hHeld
            try simp only [Act.put, List.setIfInBounds_toArray, List.set_cons_zero, List.set_cons_succ]
            refine wpAnyR_take 11 rfl (by kernel_rfl) (by kernel_rfl) (by kernel_rfl) (by kernel_rfl) (fun _ _ _ h => h) (by rfl) (v := ?_) ?_ (by assumption) ?_
            rotate_left
            focus
              intro wS hSw
              (try dsimp only at hSw)
              go_simp
              (try simp only [hbo])
              (try simp only [gd])
              (try simp only [hwj])
              (try simp only [w2, hjb, if_true, Int.toNat_natCast])
              try with_reducible rfl
            intro hHeld
            try simp only [Act.put, List.setIfInBounds_toArray, List.set_cons_zero, List.set_cons_succ]
            refine wpAnyR_step 6 rfl (by kernel_rfl) (fun K hK => ?_)
            go_simp
            go_at_call 35
            refine (HGT.out _ HC.out).mono ?_
            rintro r wA ⟨f0, f1, f2, f3, f4, rfl, hxA, hbA⟩
            have HSM : Hid (∀ W, Below wA.heap.size wA W → Calls Try.prog 34 #[.agg #[f0, f1, f2, f3, f4], .agg #[k0, k1, k2, k3, k4]] W fun r w' => r = .returned (.bool true) ∧ Below W.heap.size W w') := Lib.hid (fun W hW => same_yes y W (ObR.keep (fun g hg => hW.block g hg.2) (fun g hg => Nat.lt_of_lt_of_le hg.2 hW.size) _ hxA) (HYO.out W (HC.out.trans ((hbA.trans (hW.mono hbA.size)).mono HC.out.size))))
            have HC' := Lib.hid (HC.out.trans (hbA.mono HC.out.size))
            clear HC hbA hxA
            have HC := HC'
            clear HC'
            go_wp2_with fail
            refine hK.out _ _ (HE2.out _ HC.out) (fun hHeld => ?_)
            clear hK K
            try simp only [Act.put, List.setIfInBounds_toArray, List.set_cons_zero, List.set_cons_succ]
            refine wpAnyR_step 12 rfl (by kernel_rfl) (fun K hK => ?_)
            go_simp
            go_at_call 34
            refine (HSM.out wA (Below.refl _ _)).mono ?_
            rintro r wB ⟨rfl, hbB⟩
            have HC' := Lib.hid (HC.out.trans (hbB.mono HC.out.size))
            clear HC hbB HSM
            have HC := HC'
            clear HC'
            go_wp2_with fail
            refine hK.out _ _ (HE2.out _ HC.out) (fun hHeld => ?_)
            clear hK K
            try simp only [Act.put, List.setIfInBounds_toArray, List.set_cons_zero, List.set_cons_succ]
            refine wpAnyR_take 13 rfl (by kernel_rfl) (by kernel_rfl) (by kernel_rfl) (by kernel_rfl) (fun _ _ _ h => h) (by rfl) (v := ?_) ?_ (by assumption) ?_
            rotate_left
            focus
              intro wS hSw
              (try dsimp only at hSw)
              go_simp
              (try simp only [hbo])
              (try simp only [gd])
              (try simp only [hwj])
              (try simp only [w2, hjb, if_true, Int.toNat_natCast])
              try with_reducible rfl
            intro hHeld
            try simp only [Act.put, List.setIfInBounds_toArray, List.set_cons_zero, List.set_cons_succ]
            refine wpAnyR_take 14 rfl (by kernel_rfl) (by kernel_rfl) (by kernel_rfl) (by kernel_rfl) (fun _ _ _ h => h) (by rfl) (v := ?_) ?_ (by assumption) ?_
            rotate_left
            focus
              intro wS hSw
              (try dsimp only at hSw)
              go_simp
              (try simp only [hbo])
              (try simp only [gd])
              (try simp only [hwj])
              (try simp only [w2, hjb, if_true, Int.toNat_natCast])
              try with_reducible rfl
            intro hHeld
            try simp only [Act.put, List.setIfInBounds_toArray, List.set_cons_zero, List.set_cons_succ]
            refine wpAnyR_take 15 rfl (by kernel_rfl) (by kernel_rfl) (by kernel_rfl) (by kernel_rfl) (fun _ _ _ h => h) (by rfl) (v := ?_) ?_ (by assumption) ?_
            rotate_left
            focus
              intro wS hSw
              (try dsimp only at hSw)
              go_simp
              (try simp only [hbo])
              (try simp only [gd])
              (try simp only [hwj])
              (try simp only [w2, hjb, if_true, Int.toNat_natCast])
              try with_reducible rfl
            intro hHeld
            try simp only [Act.put, List.setIfInBounds_toArray, List.set_cons_zero, List.set_cons_succ]
            refine wpAnyR_take 16 rfl (by kernel_rfl) (by kernel_rfl) (by kernel_rfl) (by kernel_rfl) (fun _ _ _ h => h) (by rfl) (v := ?_) ?_ (by assumption) ?_
            rotate_left
            focus
              intro wS hSw
              (try dsimp only at hSw)
              go_simp
              (try simp only [hbo])
              (try simp only [gd])
              (try simp only [hwj])
              (try simp only [w2, hjb, if_true, Int.toNat_natCast])
              try with_reducible rfl
            intro hHeld
            try simp only [Act.put, List.setIfInBounds_toArray, List.set_cons_zero, List.set_cons_succ]
            refine wpAnyR_take 17 rfl (by kernel_rfl) (by kernel_rfl) (by kernel_rfl) (by kernel_rfl) (fun _ _ _ h => h) (by rfl) (v := ?_) ?_ (by assumption) ?_
            rotate_left
            focus
              intro wS hSw
              (try dsimp only at hSw)
              go_simp
              (try simp only [hbo])
              (try simp only [gd])
              (try simp only [hwj])
              (try simp only [w2, hjb, if_true, Int.toNat_natCast])
              try with_reducible rfl
            intro hHeld
            try simp only [Act.put, List.setIfInBounds_toArray, List.set_cons_zero, List.set_cons_succ]
            refine wpAnyR_take 18 rfl (by kernel_rfl) (by kernel_rfl) (by kernel_rfl) (by kernel_rfl) (fun _ _ _ h => h) (by rfl) (v := ?_) ?_ (by assumption) ?_
            rotate_left
            focus
              intro wS hSw
              (try dsimp only at hSw)
              go_simp
              (try simp only [hbo])
              (try simp only [gd])
              (try simp only [hwj])
              (try simp only [w2, hjb, if_true, Int.toNat_natCast])
              try with_reducible rfl
            intro hHeld
            try simp only [Act.put, List.setIfInBounds_toArray, List.set_cons_zero, List.set_cons_succ]
            refine wpAnyR_take 19 rfl (by kernel_rfl) (by kernel_rfl) (by kernel_rfl) (by kernel_rfl) (fun _ _ _ h => h) (by rfl) (v := ?_) ?_ (by assumption) ?_
            rotate_left
            focus
              intro wS hSw
              (try dsimp only at hSw)
              go_simp
              (try simp only [hbo])
              (try simp only [gd])
              (try simp only [hwj])
              (try simp only [w2, hjb, if_true, Int.toNat_natCast])
              try with_reducible rfl
            intro hHeld
            try simp only [Act.put, List.setIfInBounds_toArray, List.set_cons_zero, List.set_cons_succ]
            refine wpAnyR_take 20 rfl (by kernel_rfl) (by kernel_rfl) (by kernel_rfl) (by kernel_rfl) (fun _ _ _ h => h) (by rfl) (v := ?_) ?_ (by assumption) ?_
            rotate_left
            focus
              intro wS hSw
              (try dsimp only at hSw)
              go_simp
              (try simp only [hbo])
              (try simp only [gd])
              (try simp only [hwj])
              (try simp only [w2, hjb, if_true, Int.toNat_natCast])
              try with_reducible rfl
            intro hHeld
            try simp only [Act.put, List.setIfInBounds_toArray, List.set_cons_zero, List.set_cons_succ]
            refine wpAnyR_take 21 rfl (by kernel_rfl) (by kernel_rfl) (by kernel_rfl) (by kernel_rfl) (fun _ _ _ h => h) (by rfl) (v := ?_) ?_ (by assumption) ?_
            rotate_left
            focus
              intro wS hSw
              (try dsimp only at hSw)
              go_simp
              (try simp only [hbo])
              (try simp only [gd])
              (try simp only [hwj])
              (try simp only [w2, hjb, if_true, Int.toNat_natCast])
              try with_reducible rfl
            intro hHeld
            try simp only [Act.put, List.setIfInBounds_toArray, List.set_cons_zero, List.set_cons_succ]
            refine wpAnyR_take 22 rfl (by kernel_rfl) (by kernel_rfl) (by kernel_rfl) (by kernel_rfl) (fun _ _ _ h => h) (by rfl) (v := ?_) ?_ (by assumption) ?_
            rotate_left
            focus
              intro wS hSw
              (try dsimp only at hSw)
              go_simp
              (try simp only [hbo])
              (try simp only [gd])
              (try simp only [hwj])
              (try simp only [w2, hjb, if_true, Int.toNat_natCast])
              try with_reducible rfl
            intro hHeld
            try simp only [Act.put, List.setIfInBounds_toArray, List.set_cons_zero, List.set_cons_succ]
            refine wpAnyR_take 23 rfl (by kernel_rfl) (by kernel_rfl) (by kernel_rfl) (by kernel_rfl) (fun _ _ _ h => h) (by rfl) (v := ?_) ?_ (by assumption) ?_
            rotate_left
            focus
              intro wS hSw
              (try dsimp only at hSw)
              go_simp
              (try simp only [hbo])
              (try simp only [gd])
              (try simp only [hwj])
              (try simp only [w2, hjb, if_true, Int.toNat_natCast])
              try with_reducible rfl
            intro hHeld
            try simp only [Act.put, List.setIfInBounds_toArray, List.set_cons_zero, List.set_cons_succ]
            refine wpAnyR_take 24 rfl (by kernel_rfl) (by kernel_rfl) (by kernel_rfl) (by kernel_rfl) (fun _ _ _ h => h) (by rfl) (v := ?_) ?_ (by assumption) ?_
            rotate_left
            focus
              intro wS hSw
              (try dsimp only at hSw)
              go_simp
              (try simp only [hbo])
              (try simp only [gd])
              (try simp only [hwj])
              (try simp only [w2, hjb, if_true, Int.toNat_natCast])
              try with_reducible rfl
            intro hHeld
            try simp only [Act.put, List.setIfInBounds_toArray, List.set_cons_zero, List.set_cons_succ]
            refine wpAnyR_take 25 rfl (by kernel_rfl) (by kernel_rfl) (by kernel_rfl) (by kernel_rfl) (fun _ _ _ h => h) (by rfl) (v := ?_) ?_ (by assumption) ?_
            rotate_left
            focus
              intro wS hSw
              (try dsimp only at hSw)
              go_simp
              (try simp only [hbo])
              (try simp only [gd])
              (try simp only [hwj])
              (try simp only [w2, hjb, if_true, Int.toNat_natCast])
              try with_reducible rfl
            intro hHeld
            try simp only [Act.put, List.setIfInBounds_toArray, List.set_cons_zero, List.set_cons_succ]
            refine wpAnyR_take 26 rfl (by kernel_rfl) (by kernel_rfl) (by kernel_rfl) (by kernel_rfl) (fun _ _ _ h => h) (by rfl) (v := ?_) ?_ (by assumption) ?_
            rotate_left
            focus
              intro wS hSw
              (try dsimp only at hSw)
              go_simp
              (try simp only [hbo])
              (try simp only [gd])
              (try simp only [hwj])
              (try simp only [w2, hjb, if_true, Int.toNat_natCast])
              try with_reducible rfl
            intro hHeld
            try simp only [Act.put, List.setIfInBounds_toArray, List.set_cons_zero, List.set_cons_succ]
            refine wpAnyR_take 27 rfl (by kernel_rfl) (by kernel_rfl) (by kernel_rfl) (by kernel_rfl) (fun _ _ _ h => h) (by rfl) (v := ?_) ?_ (by assumption) ?_
            rotate_left
            focus
              intro wS hSw
              (try dsimp only at hSw)
              go_simp
              (try simp only [hbo])
              (try simp only [gd])
              (try simp only [hwj])
              (try simp only [w2, hjb, if_true, Int.toNat_natCast])
              try with_reducible rfl
            intro hHeld
            try simp only [Act.put, List.setIfInBounds_toArray, List.set_cons_zero, List.set_cons_succ]
            refine wpAnyR_take 28 rfl (by kernel_rfl) (by kernel_rfl) (by kernel_rfl) (by kernel_rfl) (fun _ _ _ h => h) (by rfl) (v := ?_) ?_ (by assumption) ?_
            rotate_left
            focus
              intro wS hSw
              (try dsimp only at hSw)
              go_simp
              (try simp only [hbo])
              (try simp only [gd])
              (try simp only [hwj])
              (try simp only [w2, hjb, if_true, Int.toNat_natCast])
              try with_reducible rfl
            intro hHeld
            try simp only [Act.put, List.setIfInBounds_toArray, List.set_cons_zero, List.set_cons_succ]
            refine wpAnyR_take 29 rfl (by kernel_rfl) (by kernel_rfl) (by kernel_rfl) (by kernel_rfl) (fun _ _ _ h => h) (by rfl) (v := ?_) ?_ (by assumption) ?_
            rotate_left
            focus
              intro wS hSw
              (try dsimp only at hSw)
              go_simp
              (try simp only [hbo])
              (try simp only [gd])
              (try simp only [hwj])
              (try simp only [w2, hjb, if_true, Int.toNat_natCast])
              try with_reducible rfl
            intro hHeld
            try simp only [Act.put, List.setIfInBounds_toArray, List.set_cons_zero, List.set_cons_succ]
            refine wpAnyR_take 30 rfl (by kernel_rfl) (by kernel_rfl) (by kernel_rfl) (by kernel_rfl) (fun _ _ _ h => h) (by rfl) (v := ?_) ?_ (by assumption) ?_
            rotate_left
            focus
              intro wS hSw
              (try dsimp only at hSw)
              go_simp
              (try simp only [hbo])
              (try simp only [gd])
              (try simp only [hwj])
              (try simp only [w2, hjb, if_true, Int.toNat_natCast])
              try with_reducible rfl
            intro hHeld
            try simp only [Act.put, List.setIfInBounds_toArray, List.set_cons_zero, List.set_cons_succ]
            refine wpAnyR_take 31 rfl (by kernel_rfl) (by kernel_rfl) (by kernel_rfl) (by kernel_rfl) (fun _ _ _ h => h) (by rfl) (v := ?_) ?_ (by assumption) ?_
            rotate_left
            focus
              intro wS hSw
              (try dsimp only at hSw)
              go_simp
              (try simp only [hbo])
              (try simp only [gd])
              (try simp only [hwj])
              (try simp only [w2, hjb, if_true, Int.toNat_natCast])
              try with_reducible rfl
            intro hHeld
            try simp only [Act.put, List.setIfInBounds_toArray, List.set_cons_zero, List.set_cons_succ]
            refine wpAnyR_take 32 rfl (by kernel_rfl) (by kernel_rfl) (by kernel_rfl) (by kernel_rfl) (fun _ _ _ h => h) (by rfl) (v := ?_) ?_ (by assumption) ?_
            rotate_left
            focus
              intro wS hSw
              (try dsimp only at hSw)
              go_simp
              (try simp only [hbo])
              (try simp only [gd])
              (try simp only [hwj])
              (try simp only [w2, hjb, if_true, Int.toNat_natCast])
              try with_reducible rfl
            intro hHeld
            try simp only [Act.put, List.setIfInBounds_toArray, List.set_cons_zero, List.set_cons_succ]
            refine wpAnyR_take 33 rfl (by kernel_rfl) (by kernel_rfl) (by kernel_rfl) (by kernel_rfl) (fun _ _ _ h => h) (by rfl) (v := ?_) ?_ (by assumption) ?_
            rotate_left
            focus
              intro wS hSw
              (try dsimp only at hSw)
              go_simp
              (try simp only [hbo])
              (try simp only [gd])
              (try simp only [hwj])
              (try simp only [w2, hjb, if_true, Int.toNat_natCast])
              try with_reducible rfl
            intro hHeld
            try simp only [Act.put, List.setIfInBounds_toArray, List.set_cons_zero, List.set_cons_succ]
            refine wpAnyR_done (by kernel_rfl) ?_
            refine NoPanic.normal ?_
            go_wp2_with fail
            go_roundw
            case rel => exact ⟨i + 1, by have := HLT.out; omega, by go_num, HC⟩
            case measure => simp [intOf]; have := HLT.out; omega
        · obtain rfl : LL = i := by omega
          clear hlt
          go_wp2_with fail
          go_ret
          exact ⟨rfl, HBX.out.trans (HBZ.out.mono HBX.out.size)⟩
set_option maxRecDepth 100000 in
theorem corder_lifted (os : Os) (started : os.Started) (H : Type) (enc : TypeId × Value → H) :
    ReturnsInHanded {} Try.checked os 7 .any (Rows.cosOrderSpec.pre6 enc Try.prog Try.f7 Rows.cosOrderRow.domain false) (Rows.cosOrderSpec.post enc Try.prog Try.f7 false true false false) := by
  refine returnsInHanded_of_change (C := Try.checked) own started (by kernel_rfl) Try.func7
    (ChangeSpec.witness6 (enc := enc) (C := Try.checked) false ⟨#[], #[.slice none 0 0, .int .u8 0], []⟩ 8 (by kernel_rfl) (by kernel_rfl) (by kernel_rfl) (by kernel_rfl)) ?_
  intro W base args ds gs before hval0 hW hcnd _
  have hval : ∀ (j : Nat) t v, Try.f7.params[j]? = some t → args[j]? = some v → Value.okWide Try.prog W .any base t v := hval0
  have hW' := hW
  obtain ⟨p, q, hA0, hV, rfl, hfz, hnd⟩ := hW
  have hA : DataW.TrodAll enc Try.prog W 0 (fun _ => true) true Try.f7.params.toList args.toList ds p := hA0
  rw [Try.params7] at hA hval
  obtain ⟨v0, vs0, d0, ds0, p0, q0, hargs, rfl, rfl, h0, r0⟩ := trodAll_cons hA
  obtain ⟨v1, vs1, d1, ds1, p1, q1, rfl, rfl, rfl, h1, r1⟩ := trodAll_cons r0
  obtain ⟨rfl, rfl, rfl⟩ := trodAll_nil r1
  obtain rfl : args = #[v0, v1] := by cases args; simp_all
  obtain ⟨rfl, rfl⟩ := trodVars_none hV
  obtain ⟨a0, len0, cap0, rfl⟩ := okWide_slice Try.underlying25 (hval 0 25 v0 rfl rfl)
  have h0' := h0
  obtain ⟨m0, hm0⟩ := h0'
  obtain ⟨l0, A0, c0, e0, hl0⟩ := open_ens (c := .slice a0 len0 cap0) (fun _ => rfl) hm0
  injection e0 with e01 e02 e03
  subst e01 e02 e03
  have lt0 : ∀ x ∈ p0, x.block < W.heap.size := by obtain ⟨m, hm⟩ := h0; exact DataW.trod_lt m _ _ _ hm
  obtain ⟨x1, rfl⟩ := okWide_int Try.underlying5 (hval 1 5 v1 rfl rfl)
  obtain ⟨lo1, hi1⟩ := open_intk Try.underlying5 h1
  rw [show IntKind.u8.min = 0 by decide] at lo1
  rw [show IntKind.u8.max = 255 by decide] at hi1
  have lt1 : ∀ x ∈ p1, x.block < W.heap.size := by obtain ⟨m, hm⟩ := h1; exact DataW.trod_lt m _ _ _ hm
  have hmx : maxLen = 9223372036854775807 := by decide
  clear hA0 hval0
  refine (corder_walk l0 a0 cap0 x1 W hl0 lo1 hi1).mono fun e W' ⟨he, bel⟩ => ?_
  subst he
  exact ⟨_, rfl, _, _, _, [], _, [], hW', trodAll_mk1 (shut_bool Try.underlying4 _), (trodAll_cons_mk (Below.trod laidOut (by kernel_rfl) (of_decide_eq_true (by kernel_rfl)) h0 bel lt0) (trodAll_cons_mk (Below.trod laidOut (by kernel_rfl) (of_decide_eq_true (by kernel_rfl)) h1 bel lt1) trodAll_mk0)), rfl, bel.frame _, fun h => by cases h⟩
/-- CosOrder: it answers true. -/
theorem corder_holds : Rows.CosOrderSaid :=
  OpenClaim.holds_of_wide 7 Try.f7 rfl rfl rfl rfl rfl rfl rfl ⟨rfl, rfl, rfl, rfl, rfl⟩ rfl rfl rfl rfl rfl (by kernel_rfl) Try.func7 (by kernel_rfl)
    (of_decide_eq_true (by kernel_rfl)) (by unfold Func.isWrapper; first | (rw [if_pos (by decide +kernel)]; kernel_rfl) | (rw [if_neg (by decide +kernel)]; exact ⟨rfl, rfl⟩))
    (fun os started H enc _ => corder_lifted os started H enc)
#print axioms corder_holds
end Go.Proofs.Ytdkmomdioiipjaa
