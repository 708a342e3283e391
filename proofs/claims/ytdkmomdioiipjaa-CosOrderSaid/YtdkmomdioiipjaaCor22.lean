/- Contracts of functions that the law calls, and what they lean on (a part). -/
import Derived.Test.YtdkmomdioiipjaaCor15
namespace Go.Proofs.Ytdkmomdioiipjaa
section
open Go.RowKit Go.Sort
set_option linter.unusedVariables false
set_option maxRecDepth 100000
theorem Ens.get_in : ∀ (l : Ens) (i : Nat) (s : ByteArray) (x : Ob), l.get? i = some (s, x) → (s, x) ∈ l.toL
  | .nil, i, s, x, h => by simp [Ens.get?] at h
  | .cons t y ys, 0, s, x, h => by simp [Ens.get?] at h; obtain ⟨rfl, rfl⟩ := h; rw [Ens.toL]; exact List.mem_cons_self
  | .cons t y ys, i + 1, s, x, h => by rw [Ens.toL]; exact List.mem_cons_of_mem _ (Ens.get_in ys i s x (by simpa [Ens.get?] using h))
theorem ss_next : ∀ (l : Ens) (i : Nat) (s t : ByteArray) (x y : Ob), SS l.toL → l.get? i = some (s, x) → l.get? (i + 1) = some (t, y) → ltS s t = true
  | .nil, i, s, t, x, y, _, h, _ => by simp [Ens.get?] at h
  | .cons r z zs, 0, s, t, x, y, hs, h, h2 => by
    simp [Ens.get?] at h; obtain ⟨rfl, rfl⟩ := h
    rw [Ens.toL, SS.cons] at hs
    exact hs.1 _ (Ens.get_in zs 0 t y (by simpa [Ens.get?] using h2))
  | .cons r z zs, i + 1, s, t, x, y, hs, h, h2 => by
    rw [Ens.toL, SS.cons] at hs
    exact ss_next zs i s t x y hs.2 (by simpa [Ens.get?] using h) (by simpa [Ens.get?] using h2)
theorem mayE_ss : ∀ (d : Ens) (pv : Option ByteArray) (e : Int), mayE d pv e = true → SS d.toL ∧ ∀ p, pv = some p → ∀ q ∈ d.toL, ltS p q.1 = true
  | .nil, pv, e, _ => by rw [Ens.toL]; exact ⟨List.Pairwise.nil, fun p hp q hq => by cases hq⟩
  | .cons s x xs, pv, e, h => by
    rw [mayE] at h
    by_cases h1 : nameS s = true ∧ (∀ p, pv = some p → leS s p = false) ∧ x.kind ≠ 8 ∧ x.kind ≠ 0 ∧ mayO x (e - 1) = true
    · rw [if_pos h1] at h
      obtain ⟨a, b⟩ := mayE_ss xs (some s) e h
      rw [Ens.toL, SS.cons]
      refine ⟨⟨fun q hq => b s rfl q hq, a⟩, fun p hp q hq => ?_⟩
      have hps : ltS p s = true := leS_no (by rw [h1.2.1 p hp]; simp)
      rcases List.mem_cons.1 hq with rfl | hq
      · exact hps
      · exact ltS_trans hps (b s rfl q hq)
    · rw [if_neg h1] at h; cases h
set_option maxHeartbeats 4000000 in
theorem riseC (l : Ens) (S : Nat → Prop) (w : World) (A : Option Addr) (c : Nat) (hl : EnsV w S l A c) (hS : ∀ g, S g → g < w.heap.size) (hs : SS l.toL) :
    Calls Try.prog 84 #[.slice A l.len c] w fun r w' => r = .returned (.bool true) ∧ Below w.heap.size w w' := by
  have HL := Lib.hid hl
  have HS := Lib.hid hS
  have HSS := Lib.hid hs
  obtain ⟨LL, hLL⟩ : ∃ LL, l.len = LL := ⟨_, rfl⟩
  have HLL := Lib.hid hLL
  have hmx : LL ≤ 9223372036854775807 := by rw [← hLL]; have := hl.1; omega
  rw [hLL]
  clear hl hS hs hLL
  go_enter Try.func84, Try.ntmps84
  go_wp2_with fail
  go_loopw [3] (fun iv wr => ∃ (i : Nat), 1 ≤ i ∧ (i ≤ LL ∨ i = 1) ∧ iv = .int .i64 i ∧ Hid (Below w.heap.size w wr)) (fun iv _ => LL - (intOf iv).toNat)
  case atStart => exact ⟨1, Nat.le_refl _, .inr rfl, rfl, Lib.hid (Below.refl _ _)⟩
  case round =>
    obtain ⟨i, h1, hi, rfl, HBE⟩ := hrel
    by_cases hlt : i < LL
    · obtain ⟨j, rfl⟩ : ∃ j, i = j + 1 := ⟨i - 1, by omega⟩
      obtain ⟨s, x, hx⟩ := l.get_some j (by rw [HLL.out]; omega)
      obtain ⟨t, y, hy⟩ := l.get_some (j + 1) (by rw [HLL.out]; omega)
      obtain ⟨g, o, rfl, hg, hobs⟩ := HL.out.2 (by rw [HLL.out]; omega)
      obtain ⟨_, _, _, _, _, ks, _⟩ := hobs.get l g o j s x hx
      obtain ⟨_, _, _, _, _, kt, _⟩ := hobs.get l g o (j + 1) t y hy
      have HK : Hid (∀ W, Below w.heap.size w W → W.cell? ⟨g, o + j * 6, none⟩ = some (.string s) ∧ W.cell? ⟨g, o + (j + 1) * 6, none⟩ = some (.string t)) := Lib.hid (fun W hW => by
        have e := fun j => World.cell?_of_block (a := ⟨g, j, none⟩) (hW.block g (HS.out g hg))
        exact ⟨(e _).trans ks, (e _).trans kt⟩)
      have hbl : Op.bytesLess s.toList t.toList = true := ss_next l j s t x y HSS.out hx hy
      obtain ⟨i2, hi2⟩ : ∃ i2, j + 1 = i2 := ⟨_, rfl⟩
      rw [hi2] at hlt HK h1 hi ⊢
      have hli : (i2 : Int) < LL := by omega
      have hij : (i2 : Int) - 1 = j := by omega
      have hwj : IntKind.i64.wrap ((i2 : Int) - 1) = j := by rw [hij]; exact IntWalk.i64_in _ (by omega)
      have w2 : IntKind.i64.wrap (j : Int) = j := IntWalk.i64_in _ (by omega)
      have hjb : (0 ≤ (j : Int) ∧ (j : Int) < (LL : Int)) = True := eq_true ⟨by omega, by omega⟩
      have hjc : (0 ≤ (i2 : Int) ∧ (i2 : Int) < (LL : Int)) = True := eq_true ⟨by omega, by omega⟩
      have hjn : (j < LL) = True := eq_true (by omega)
      have hjm : (i2 < LL) = True := eq_true hlt
      have HBD := Lib.hid HBE.out.drew
      clear hobs hg hx hy ks kt
      go_upto_region 4 with fail
      refine wp_region_heldR (fun W => W.cell? ⟨g, o + j * 6, none⟩ = some (.string s) ∧ W.cell? ⟨g, o + i2 * 6, none⟩ = some (.string t)) 1000 (by kernel_rfl) (HK.out _ HBD.out) (fun hHeld => ?_)
      refine wpAnyR_take 0 rfl (by kernel_rfl) (by kernel_rfl) (by kernel_rfl) (by kernel_rfl) (fun _ _ _ h => h) (by rfl) (v := ?_) ?_ (by assumption) ?_
      rotate_left
      focus
        intro wS hSw
        (try dsimp only at hSw)
        go_simp
        (try simp only [hwj])
        (try simp only [w2, hjb, if_true, Int.toNat_natCast])
        (try simp only [hjc, if_true, Int.toNat_natCast])
        (try simp only [hjn, if_true])
        (try simp only [hjm, if_true])
        (try simp only [hbl, Bool.not_true])
        try with_reducible rfl
      intro hHeld
      try simp only [Act.put, List.setIfInBounds_toArray, List.set_cons_zero, List.set_cons_succ]
      refine wpAnyR_take 1 rfl (by kernel_rfl) (by kernel_rfl) (by kernel_rfl) (by kernel_rfl) (fun _ _ _ h => h) (by rfl) (v := ?_) ?_ (by assumption) ?_
      rotate_left
      focus
        intro wS hSw
        (try dsimp only at hSw)
        go_simp
        (try simp only [hwj])
        (try simp only [w2, hjb, if_true, Int.toNat_natCast])
        (try simp only [hjc, if_true, Int.toNat_natCast])
        (try simp only [hjn, if_true])
        (try simp only [hjm, if_true])
        (try simp only [hbl, Bool.not_true])
        try with_reducible rfl
      intro hHeld
      try simp only [Act.put, List.setIfInBounds_toArray, List.set_cons_zero, List.set_cons_succ]
      refine wpAnyR_take 2 rfl (by kernel_rfl) (by kernel_rfl) (by kernel_rfl) (by kernel_rfl) (fun _ _ _ h => h) (by rfl) (v := ?_) ?_ (by assumption) ?_
      rotate_left
      focus
        intro wS hSw
        (try dsimp only at hSw)
        go_simp
        (try simp only [hwj])
        (try simp only [w2, hjb, if_true, Int.toNat_natCast])
        (try simp only [hjc, if_true, Int.toNat_natCast])
        (try simp only [hjn, if_true])
        (try simp only [hjm, if_true])
        (try simp only [hbl, Bool.not_true])
        try with_reducible rfl
      intro hHeld
      try simp only [Act.put, List.setIfInBounds_toArray, List.set_cons_zero, List.set_cons_succ]
      refine wpAnyR_take 3 rfl (by kernel_rfl) (by kernel_rfl) (by kernel_rfl) (by kernel_rfl) (fun _ _ _ h => h) (by rfl) (v := ?_) ?_ (by assumption) ?_
      rotate_left
      focus
        intro wS hSw
        (try dsimp only at hSw)
        go_simp
        (try simp only [hwj])
        (try simp only [w2, hjb, if_true, Int.toNat_natCast])
        (try simp only [hjc, if_true, Int.toNat_natCast])
        (try simp only [hjn, if_true])
        (try simp only [hjm, if_true])
        (try simp only [hbl, Bool.not_true])
        try with_reducible rfl
      intro hHeld
      try simp only [Act.put, List.setIfInBounds_toArray, List.set_cons_zero, List.set_cons_succ]
      refine wpAnyR_take 4 rfl (by kernel_rfl) (by kernel_rfl) (by kernel_rfl) (by kernel_rfl) (fun _ _ _ h => h) (by rfl) (v := ?_) ?_ (by assumption) ?_
      rotate_left
      focus
        intro wS hSw
        (try dsimp only at hSw)
        go_simp
        (try simp only [hwj])
        (try simp only [w2, hjb, if_true, Int.toNat_natCast])
        (try simp only [hjc, if_true, Int.toNat_natCast])
        (try simp only [hjn, if_true])
        (try simp only [hjm, if_true])
        (try simp only [hbl, Bool.not_true])
        try with_reducible rfl
      intro hHeld
      try simp only [Act.put, List.setIfInBounds_toArray, List.set_cons_zero, List.set_cons_succ]
      refine wpAnyR_take 5 rfl (by kernel_rfl) (by kernel_rfl) (by kernel_rfl) (by kernel_rfl) (fun _ _ _ h => h) (by rfl) (v := ?_) ?_ (by assumption) ?_
      rotate_left
      focus
        intro wS hSw
        (try dsimp only at hSw)
        go_simp
        (try simp only [hwj])
        (try simp only [w2, hjb, if_true, Int.toNat_natCast])
        (try simp only [hjc, if_true, Int.toNat_natCast])
        (try simp only [hjn, if_true])
        (try simp only [hjm, if_true])
        (try simp only [hbl, Bool.not_true])
        try with_reducible rfl
      intro hHeld
      try simp only [Act.put, List.setIfInBounds_toArray, List.set_cons_zero, List.set_cons_succ]
      refine wpAnyR_take 6 rfl (by kernel_rfl) (by kernel_rfl) (by kernel_rfl) (by kernel_rfl) (fun _ _ _ h => h) (by rfl) (v := ?_) ?_ (by assumption) ?_
      rotate_left
      focus
        intro wS hSw
        (try dsimp only at hSw)
        go_simp
        (try simp only [hwj])
        (try simp only [w2, hjb, if_true, Int.toNat_natCast])
        (try simp only [hjc, if_true, Int.toNat_natCast])
        (try simp only [hjn, if_true])
        (try simp only [hjm, if_true])
        (try simp only [hbl, Bool.not_true])
        try with_reducible rfl
      intro hHeld
      try simp only [Act.put, List.setIfInBounds_toArray, List.set_cons_zero, List.set_cons_succ]
      refine wpAnyR_take 7 rfl (by kernel_rfl) (by kernel_rfl) (by kernel_rfl) (by kernel_rfl) (fun _ _ _ h => h) (by rfl) (v := ?_) ?_ (by assumption) ?_
      rotate_left
      focus
        intro wS hSw
        (try dsimp only at hSw)
        go_simp
        (try simp only [hwj])
        (try simp only [w2, hjb, if_true, Int.toNat_natCast])
        (try simp only [hjc, if_true, Int.toNat_natCast])
        (try simp only [hjn, if_true])
        (try simp only [hjm, if_true])
        (try simp only [hbl, Bool.not_true])
        try with_reducible rfl
      intro hHeld
      try simp only [Act.put, List.setIfInBounds_toArray, List.set_cons_zero, List.set_cons_succ]
      refine wpAnyR_take 8 rfl (by kernel_rfl) (by kernel_rfl) (by kernel_rfl) (by kernel_rfl) (fun _ _ _ h => h) (by rfl) (v := ?_) ?_ (by assumption) ?_
      rotate_left
      focus
        intro wS hSw
        (try dsimp only at hSw)
        go_simp
        (try simp only [hwj])
        (try simp only [w2, hjb, if_true, Int.toNat_natCast])
        (try simp only [hjc, if_true, Int.toNat_natCast])
        (try simp only [hjn, if_true])
        (try simp only [hjm, if_true])
        (try simp only [hbl, Bool.not_true])
        try with_reducible rfl
      intro hHeld
      try simp only [Act.put, List.setIfInBounds_toArray, List.set_cons_zero, List.set_cons_succ]
      refine wpAnyR_take 9 rfl (by kernel_rfl) (by kernel_rfl) (by kernel_rfl) (by kernel_rfl) (fun _ _ _ h => h) (by rfl) (v := ?_) ?_ (by assumption) ?_
      rotate_left
      focus
        intro wS hSw
        (try dsimp only at hSw)
        go_simp
        (try simp only [hwj])
        (try simp only [w2, hjb, if_true, Int.toNat_natCast])
        (try simp only [hjc, if_true, Int.toNat_natCast])
        (try simp only [hjn, if_true])
        (try simp only [hjm, if_true])
        (try simp only [hbl, Bool.not_true])
        try with_reducible rfl
      intro hHeld
      try simp only [Act.put, List.setIfInBounds_toArray, List.set_cons_zero, List.set_cons_succ]
      refine wpAnyR_take 10 rfl (by kernel_rfl) (by kernel_rfl) (by kernel_rfl) (by kernel_rfl) (fun _ _ _ h => h) (by rfl) (v := ?_) ?_ (by assumption) ?_
      rotate_left
      focus
        intro wS hSw
        (try dsimp only at hSw)
        go_simp
        (try simp only [hwj])
        (try simp only [w2, hjb, if_true, Int.toNat_natCast])
        (try simp only [hjc, if_true, Int.toNat_natCast])
        (try simp only [hjn, if_true])
        (try simp only [hjm, if_true])
        (try simp only [hbl, Bool.not_true])
        try with_reducible rfl
      intro hHeld
      try simp only [Act.put, List.setIfInBounds_toArray, List.set_cons_zero, List.set_cons_succ]
      refine wpAnyR_take 11 rfl (by kernel_rfl) (by kernel_rfl) (by kernel_rfl) (by kernel_rfl) (fun _ _ _ h => h) (by rfl) (v := ?_) ?_ (by assumption) ?_
      rotate_left
      focus
        intro wS hSw
        (try dsimp only at hSw)
        go_simp
        (try simp only [hwj])
        (try simp only [w2, hjb, if_true, Int.toNat_natCast])
        (try simp only [hjc, if_true, Int.toNat_natCast])
        (try simp only [hjn, if_true])
        (try simp only [hjm, if_true])
        (try simp only [hbl, Bool.not_true])
        try with_reducible rfl
      intro hHeld
      try simp only [Act.put, List.setIfInBounds_toArray, List.set_cons_zero, List.set_cons_succ]
      refine wpAnyR_done (by kernel_rfl) ?_
      refine NoPanic.normal ?_
      go_wp2_with fail
      go_roundw
      case rel => exact ⟨i2 + 1, by omega, .inl (by omega), by go_num, HBD⟩
      case measure => simp [intOf]; omega
    · have hli : ¬ (i : Int) < LL := by omega
      go_wp2_with fail
      go_ret
      exact ⟨rfl, HBE.out⟩
theorem firstsC (l : Ens) (S : Nat → Prop) (w : World) (A : Option Addr) (c : Nat) (hl : EnsV w S l A c) (hS : ∀ g, S g → g < w.heap.size) (hs : SS l.toL) :
    Calls Try.prog 68 #[.slice A l.len c] w fun r w' => r = .returned (.slice A l.len c) ∧ Below w.heap.size w w' := by
  have HR := Lib.hid (riseC l S w A c hl hS hs)
  obtain ⟨LL, hLL⟩ : ∃ LL, l.len = LL := ⟨_, rfl⟩
  rw [hLL] at HR ⊢
  clear hl hS hs hLL
  go_enter Try.func68, Try.ntmps68
  go_wp2_with (go_at_call 84; refine HR.out.mono ?_; (rintro r w3 ⟨rfl, hb3⟩))
  go_ret
  exact ⟨rfl, hb3⟩
theorem may_fields {k n : Int} {b : List Int} {l : Obs} {d : Ens} {e : Int} (h : mayO (.mk k n b l d) e = true) : (b = [] ∨ k = 4 ∨ k = 5 ∨ k = 8) ∧ (l = .nil ∨ k = 6) ∧ (d = .nil ∨ k = 7 ∨ k = 8) ∧ (n = 0 ∨ k = 1 ∨ k = 2 ∨ k = 3 ∨ k = 9) := by
  rw [mayO] at h
  by_cases hb : badF k b.length l.len d.len = true
  · rw [if_pos hb] at h; cases h
  rw [if_neg hb] at h
  refine ⟨?_, ?_, ?_, ?_⟩
  · rcases Nat.eq_zero_or_pos b.length with h0 | h0
    · exact .inl (List.eq_nil_of_length_eq_zero h0)
    · refine .inr (Classical.byContradiction fun hk => hb ?_)
      unfold badF; exact decide_eq_true (.inr (.inr ⟨h0, fun e => hk (.inl e), fun e => hk (.inr (.inl e)), fun e => hk (.inr (.inr e))⟩))
  · rcases Nat.eq_zero_or_pos l.len with h0 | h0
    · exact .inl (Obs.nil_of h0)
    · refine .inr (Classical.byContradiction fun hk => hb ?_)
      unfold badF; exact decide_eq_true (.inl ⟨h0, hk⟩)
  · rcases Nat.eq_zero_or_pos d.len with h0 | h0
    · exact .inl (Ens.nil_of h0)
    · refine .inr (Classical.byContradiction fun hk => hb ?_)
      unfold badF; exact decide_eq_true (.inr (.inl ⟨h0, fun e => hk (.inl e), fun e => hk (.inr e)⟩))
  · by_cases h1 : k = 1
    · exact .inr (.inl h1)
    by_cases h2 : k = 2
    · exact .inr (.inr (.inl h2))
    by_cases h3 : k = 3
    · exact .inr (.inr (.inr (.inl h3)))
    by_cases h9 : k = 9
    · exact .inr (.inr (.inr (.inr h9)))
    rw [if_neg h1, if_neg h2, if_neg h3, if_neg h9] at h
    by_cases hn : n = 0
    · exact .inl hn
    · rw [if_pos hn] at h; cases h
/- Each field is used by its kind, the entries rise. -/
mutual
def fitO : Ob → Prop
  | .mk k n b l d => ((b = [] ∨ k = 4 ∨ k = 5 ∨ k = 8) ∧ (l = .nil ∨ k = 6) ∧ (d = .nil ∨ k = 7 ∨ k = 8) ∧ (n = 0 ∨ k = 1 ∨ k = 2 ∨ k = 3 ∨ k = 9)) ∧ (0 ≤ k ∧ k ≤ 9) ∧ SS d.toL ∧ fitL l ∧ fitE d
def fitL : Obs → Prop
  | .nil => True
  | .cons x xs => fitO x ∧ fitL xs
def fitE : Ens → Prop
  | .nil => True
  | .cons _ x xs => fitO x ∧ fitE xs
end
/-- What used leaves of what fits is the same object. -/
theorem used_fit {w : World} {S : Nat → Prop} {x : Ob} {c0 c1 c2 c3 c4 : Value} (hx : ObR w S x c0 c1 c2 c3 c4) (hm : fitO x) : ∃ d0 d1 d2 d3 d4, ObR w S x d0 d1 d2 d3 d4 ∧ ∀ W, Calls Try.prog 56 #[.agg #[c0, c1, c2, c3, c4]] W fun r w' => r = .returned (.agg #[d0, d1, d2, d3, d4]) ∧ Below W.heap.size W w' := by
  obtain ⟨k, n, b, l, d⟩ := x
  unfold fitO at hm
  obtain ⟨⟨f1, f2, f3, f4⟩, hkk, -, -, -⟩ := hm
  unfold ObR at hx
  obtain ⟨rfl, rfl, hk, hn, ⟨A2, m2, c2, rfl, hB⟩, ⟨A3, c3, rfl, h3, hl⟩, ⟨A4, c4, rfl, h4, hd⟩⟩ := hx
  have hU := usedC k n A2 A3 A4 m2 c2 l.len c3 d.len c4
  have b0 : BytS w S none 0 0 [] := ⟨rfl, by omega, (fun z hz => by cases hz), fun h => absurd h (by omega)⟩
  have l0 : (0 < Obs.nil.len → ∃ g o, (none : Option Addr) = some ⟨g, o, none⟩ ∧ S g ∧ ObsR w S .nil g o) := fun h => absurd h (by simp [Obs.len])
  have d0 : (0 < Ens.nil.len → ∃ g o, (none : Option Addr) = some ⟨g, o, none⟩ ∧ S g ∧ EnsR w S .nil g o) := fun h => absurd h (by simp [Ens.len])
  have c0 : Obs.nil.len ≤ 0 ∧ (0 : Nat) ≤ 9223372036854775807 := by simp [Obs.len]
  have e0 : Ens.nil.len ≤ 0 ∧ (0 : Nat) ≤ 9223372036854775807 := by simp [Ens.len]
  have main : ∀ B2 q2 C2 A5 q5 C5 A6 q6 C6, usedV k n (.slice A2 m2 c2) (.slice A3 l.len c3) (.slice A4 d.len c4) = .agg #[.int .i64 k, .int .i64 n, .slice B2 q2 C2, .slice A5 q5 C5, .slice A6 q6 C6] → ObR w S (.mk k n b l d) (.int .i64 k) (.int .i64 n) (.slice B2 q2 C2) (.slice A5 q5 C5) (.slice A6 q6 C6) → ∃ d0 d1 d2 d3 d4, ObR w S (.mk k n b l d) d0 d1 d2 d3 d4 ∧ ∀ W, Calls Try.prog 56 #[.agg #[.int .i64 k, .int .i64 n, .slice A2 m2 c2, .slice A3 l.len c3, .slice A4 d.len c4]] W fun r w' => r = .returned (.agg #[d0, d1, d2, d3, d4]) ∧ Below W.heap.size W w' := by
    intro B2 q2 C2 A5 q5 C5 A6 q6 C6 hu ho
    refine ⟨_, _, _, _, _, ho, fun W => ?_⟩
    rw [← hu]
    exact hU W
  by_cases h1 : k = 1 ∨ k = 2 ∨ k = 3 ∨ k = 9
  · obtain rfl : b = [] := f1.resolve_right (by omega)
    obtain rfl : l = .nil := f2.resolve_right (by omega)
    obtain rfl : d = .nil := f3.resolve_right (by omega)
    refine main none 0 0 none 0 0 none 0 0 (by unfold usedV; rw [if_pos h1]) ?_
    unfold ObR
    exact ⟨rfl, rfl, hk, hn, ⟨_, _, _, rfl, b0⟩, ⟨_, _, rfl, c0, l0⟩, ⟨_, _, rfl, e0, d0⟩⟩
  by_cases h2 : k = 4 ∨ k = 5
  · obtain rfl : l = .nil := f2.resolve_right (by omega)
    obtain rfl : d = .nil := f3.resolve_right (by omega)
    obtain rfl : n = 0 := f4.resolve_right (by omega)
    refine main A2 m2 c2 none 0 0 none 0 0 (by unfold usedV; rw [if_neg h1, if_pos h2]) ?_
    unfold ObR
    exact ⟨rfl, rfl, hk, hn, ⟨_, _, _, rfl, hB⟩, ⟨_, _, rfl, c0, l0⟩, ⟨_, _, rfl, e0, d0⟩⟩
  by_cases h6 : k = 6
  · obtain rfl : b = [] := f1.resolve_right (by omega)
    obtain rfl : d = .nil := f3.resolve_right (by omega)
    obtain rfl : n = 0 := f4.resolve_right (by omega)
    refine main none 0 0 A3 l.len c3 none 0 0 (by unfold usedV; rw [if_neg h1, if_neg h2, if_pos h6]) ?_
    unfold ObR
    exact ⟨rfl, rfl, hk, hn, ⟨_, _, _, rfl, b0⟩, ⟨_, _, rfl, h3, hl⟩, ⟨_, _, rfl, e0, d0⟩⟩
  by_cases h7 : k = 7
  · obtain rfl : b = [] := f1.resolve_right (by omega)
    obtain rfl : l = .nil := f2.resolve_right (by omega)
    obtain rfl : n = 0 := f4.resolve_right (by omega)
    refine main none 0 0 none 0 0 A4 d.len c4 (by unfold usedV; rw [if_neg h1, if_neg h2, if_neg h6, if_pos h7]) ?_
    unfold ObR
    exact ⟨rfl, rfl, hk, hn, ⟨_, _, _, rfl, b0⟩, ⟨_, _, rfl, c0, l0⟩, ⟨_, _, rfl, h4, hd⟩⟩
  by_cases h8 : k = 8
  · obtain rfl : l = .nil := f2.resolve_right (by omega)
    obtain rfl : n = 0 := f4.resolve_right (by omega)
    refine main A2 m2 c2 none 0 0 A4 d.len c4 (by unfold usedV; rw [if_neg h1, if_neg h2, if_neg h6, if_neg h7, if_pos h8]) ?_
    unfold ObR
    exact ⟨rfl, rfl, hk, hn, ⟨_, _, _, rfl, hB⟩, ⟨_, _, rfl, c0, l0⟩, ⟨_, _, rfl, h4, hd⟩⟩
  · obtain rfl : b = [] := f1.resolve_right (by omega)
    obtain rfl : l = .nil := f2.resolve_right (by omega)
    obtain rfl : d = .nil := f3.resolve_right (by omega)
    obtain rfl : n = 0 := f4.resolve_right (by omega)
    obtain rfl : k = 0 := by omega
    refine main none 0 0 none 0 0 none 0 0 (by unfold usedV; rw [if_neg h1, if_neg h2, if_neg h6, if_neg h7, if_neg h8]) ?_
    unfold ObR
    exact ⟨rfl, rfl, hk, hn, ⟨_, _, _, rfl, b0⟩, ⟨_, _, rfl, c0, l0⟩, ⟨_, _, rfl, e0, d0⟩⟩
/-- The entries of what may be rise. -/
theorem may_ss {k n : Int} {b : List Int} {l : Obs} {d : Ens} {e : Int} (h : mayO (.mk k n b l d) e = true) : SS d.toL := by
  obtain ⟨_, _, p2, _⟩ := may_parts h
  rcases p2 with rfl | p2
  · exact List.Pairwise.nil
  · exact (mayE_ss d none e p2).1
mutual
theorem may_fit : ∀ (x : Ob) (e : Int), mayO x e = true → fitO x
  | .mk k n b l d, e, h => by
    obtain ⟨hk, p1, p2, _⟩ := may_parts h
    unfold fitO
    refine ⟨may_fields h, hk, may_ss h, ?_, ?_⟩
    · rcases p1 with rfl | p1
      · unfold fitL; trivial
      · exact mayL_fit l e p1
    · rcases p2 with rfl | p2
      · unfold fitE; trivial
      · exact mayE_fit d none e p2
theorem mayL_fit : ∀ (l : Obs) (e : Int), mayL l e = true → fitL l
  | .nil, e, h => by unfold fitL; trivial
  | .cons x xs, e, h => by
    rw [mayL] at h
    by_cases q1 : x.kind = 8 ∨ e < 1
    · rw [if_pos q1] at h; cases h
    rw [if_neg q1] at h
    by_cases r1 : mayO x (e - 1) = true
    · rw [if_pos r1] at h
      unfold fitL
      exact ⟨may_fit x _ r1, mayL_fit xs e h⟩
    · rw [if_neg r1] at h; cases h
theorem mayE_fit : ∀ (d : Ens) (pv : Option ByteArray) (e : Int), mayE d pv e = true → fitE d
  | .nil, pv, e, h => by unfold fitE; trivial
  | .cons s x xs, pv, e, h => by
    rw [mayE] at h
    split at h
    · rename_i q1
      unfold fitE
      exact ⟨may_fit x _ q1.2.2.2.2, mayE_fit xs (some s) e h⟩
    · cases h
end
theorem fitE_iff : ∀ d : Ens, fitE d ↔ ∀ p ∈ d.toL, fitO p.2
  | .nil => by unfold fitE; simp [Ens.toL]
  | .cons s x xs => by
    unfold fitE
    rw [fitE_iff xs, Ens.toL, List.forall_mem_cons]
end

section
open Go.RowKit Go.Sort
set_option linter.unusedVariables false
set_option maxRecDepth 100000
theorem row5_cells {W : World} {g : Nat} {z0 z1 z2 z3 z4 : Value} {T : TypeId} (hh : W.heap[g]? = some (.cells #[z0, z1, z2, z3, z4] T (0, 0))) :
    W.cell? ⟨g, 0, none⟩ = some z0 ∧ W.cell? ⟨g, 1, none⟩ = some z1 ∧ W.cell? ⟨g, 2, none⟩ = some z2 ∧ W.cell? ⟨g, 3, none⟩ = some z3 ∧ W.cell? ⟨g, 4, none⟩ = some z4 ∧ (∀ j, W.frozen? ⟨g, j, none⟩ = false) :=
  ⟨cell_of_row _ _ 0 _ _ (0, 0) hh, cell_of_row _ _ 1 _ _ (0, 0) hh, cell_of_row _ _ 2 _ _ (0, 0) hh, cell_of_row _ _ 3 _ _ (0, 0) hh, cell_of_row _ _ 4 _ _ (0, 0) hh, fun j => by simp [World.frozen?, hh]⟩
set_option maxHeartbeats 4000000 in
theorem countedC (x : Ob) (S : Nat → Prop) (w : World) (c0 c1 c2 c3 c4 : Value) (hx : ObR w S x c0 c1 c2 c3 c4) (hS : ∀ g, S g → g < w.heap.size) (hm : fitO x) :
    Calls Try.prog 42 #[.agg #[c0, c1, c2, c3, c4]] w fun r w' => ∃ d0 d1 d2 d3 d4, r = .returned (.agg #[d0, d1, d2, d3, d4]) ∧ ObR w' S x d0 d1 d2 d3 d4 ∧ Below w.heap.size w w' := by
  obtain ⟨d0, d1, d2, d3, d4, hd, hU⟩ := used_fit hx hm
  obtain ⟨k, n, b, l, d⟩ := x
  have hss : SS d.toL := by unfold fitO at hm; exact hm.2.2.1
  have hx2 := hx
  unfold ObR at hx2
  obtain ⟨rfl, rfl, -, -, ⟨A2, m2, c2, rfl, -⟩, ⟨A3, c3, rfl, -, -⟩, ⟨A4, c4, rfl, -, -⟩⟩ := hx2
  have hd2 := hd
  unfold ObR at hd2
  obtain ⟨rfl, rfl, -, -, ⟨B2, q2, C2, rfl, -⟩, ⟨B3, C3, rfl, -, -⟩, ⟨B4, C4, rfl, h4, h5⟩⟩ := hd2
  have hF := fun W (hW : Below w.heap.size w W) => firstsC d S W B4 C4 (EnsV.keep ⟨h4, h5⟩ (fun g hg => hW.block g (hS g hg)) (fun _ h => h)) (fun g hg => Nat.lt_of_lt_of_le (hS g hg) hW.size) hss
  have hR := fun W (hW : Below w.heap.size w W) => ObR.keep (S' := S) (fun g hg => hW.block g (hS g hg)) (fun _ h => h) _ hd
  obtain ⟨LL, hLL⟩ : ∃ LL, l.len = LL := ⟨_, rfl⟩
  obtain ⟨DD, hDD⟩ : ∃ DD, d.len = DD := ⟨_, rfl⟩
  rw [hLL, hDD] at hU ⊢
  simp only [hDD, hLL] at hF hR
  have HF := Lib.hid hF
  have HR := Lib.hid hR
  have HU := Lib.hid hU
  have hb2 := ((Below.refl w.heap.size w).alloc (Nat.le_refl _) (.cells #[.int .i64 k, .int .i64 n, .slice A2 m2 c2, .slice A3 LL c3, .slice A4 DD c4] 27)).alloc (by simp) (.cells #[.int .i64 0, .int .i64 0, .slice none 0 0, .slice none 0 0, .slice none 0 0] 27)
  have hn2 := heap_alloc2_new w (.cells #[.int .i64 k, .int .i64 n, .slice A2 m2 c2, .slice A3 LL c3, .slice A4 DD c4] 27) (.cells #[.int .i64 0, .int .i64 0, .slice none 0 0, .slice none 0 0, .slice none 0 0] 27)
  have hn1 : ((w.alloc (.cells #[.int .i64 k, .int .i64 n, .slice A2 m2 c2, .slice A3 LL c3, .slice A4 DD c4] 27)).alloc (.cells #[.int .i64 0, .int .i64 0, .slice none 0 0, .slice none 0 0, .slice none 0 0] 27)).heap[w.heap.size]? = some (.cells #[.int .i64 k, .int .i64 n, .slice A2 m2 c2, .slice A3 LL c3, .slice A4 DD c4] 27) := by
    rw [heap_alloc_old _ _ (by simp)]; exact heap_alloc_new w _
  have hsz : ((w.alloc (.cells #[.int .i64 k, .int .i64 n, .slice A2 m2 c2, .slice A3 LL c3, .slice A4 DD c4] 27)).alloc (.cells #[.int .i64 0, .int .i64 0, .slice none 0 0, .slice none 0 0, .slice none 0 0] 27)).heap.size = w.heap.size + 2 := by simp
  obtain ⟨W2, hW2⟩ : ∃ W2, (w.alloc (.cells #[.int .i64 k, .int .i64 n, .slice A2 m2 c2, .slice A3 LL c3, .slice A4 DD c4] 27)).alloc (.cells #[.int .i64 0, .int .i64 0, .slice none 0 0, .slice none 0 0, .slice none 0 0] 27) = W2 := ⟨_, rfl⟩
  rw [hW2] at hb2 hn2 hsz hn1
  have m0 : W2.cell? ⟨w.heap.size, 0, none⟩ = some (.int .i64 k) := cell_of_row _ _ 0 _ _ (0, 0) hn1
  have m1 : W2.cell? ⟨w.heap.size, 1, none⟩ = some (.int .i64 n) := cell_of_row _ _ 1 _ _ (0, 0) hn1
  have m2' : W2.cell? ⟨w.heap.size, 2, none⟩ = some (.slice A2 m2 c2) := cell_of_row _ _ 2 _ _ (0, 0) hn1
  have m3 : W2.cell? ⟨w.heap.size, 3, none⟩ = some (.slice A3 LL c3) := cell_of_row _ _ 3 _ _ (0, 0) hn1
  have m4 : W2.cell? ⟨w.heap.size, 4, none⟩ = some (.slice A4 DD c4) := cell_of_row _ _ 4 _ _ (0, 0) hn1
  have HB2 := Lib.hid hb2
  have HN2 := Lib.hid hn2
  have HN1 := Lib.hid hn1
  have HZ := Lib.hid hsz
  have HW2 := Lib.hid hW2
  clear hb2 hn2 hn1 hsz hW2 hF hR hU hx hd h4 h5 hS hm hss hLL hDD
  go_enter Try.func42, Try.ntmps42
  go_upto_region 1 with fail
  rw [HW2.out]
  go_upto_region 2 with (go_at_call 56; refine (HU.out _).mono ?_; (rintro r w3 ⟨rfl, hb3⟩); have HN31 := Lib.hid (blk_keep9 hb3 HN1.out); have HN32 := Lib.hid (blk_keep9 hb3 HN2.out); have HB3 := Lib.hid (HB2.out.trans (hb3.mono HB2.out.size)); have HZ3 := Lib.hid (Nat.le_trans (Nat.le_of_eq HZ.out.symm) hb3.size); (obtain ⟨r0, r1, r2, r3, r4, r5⟩ := row5_cells HN31.out); clear hb3)
  have hn4 := set5_row (x0 := .int .i64 k) (x1 := .int .i64 n) (x2 := .slice B2 q2 C2) (x3 := .slice B3 LL C3) (x4 := .slice B4 DD C4) HN31.out
  have ho4 := blk_set5 (g := w.heap.size) (x0 := .int .i64 k) (x1 := .int .i64 n) (x2 := .slice B2 q2 C2) (x3 := .slice B3 LL C3) (x4 := .slice B4 DD C4) HN32.out (by omega)
  have hb4 := below_set5 (x0 := .int .i64 k) (x1 := .int .i64 n) (x2 := .slice B2 q2 C2) (x3 := .slice B3 LL C3) (x4 := .slice B4 DD C4) HB3.out (Nat.le_refl _)
  obtain ⟨w4, hw4⟩ : ∃ w4, (((((w3.setCell ⟨w.heap.size, 0, none⟩ (.int .i64 k)).setCell ⟨w.heap.size, 1, none⟩ (.int .i64 n)).setCell ⟨w.heap.size, 2, none⟩ (.slice B2 q2 C2)).setCell ⟨w.heap.size, 3, none⟩ (.slice B3 LL C3)).setCell ⟨w.heap.size, 4, none⟩ (.slice B4 DD C4)) = w4 := ⟨_, rfl⟩
  rw [hw4] at hn4 ho4 hb4 ⊢
  have HN41 := Lib.hid hn4
  have HN42 := Lib.hid ho4
  have HB4 := Lib.hid hb4
  obtain ⟨t0, t1, t2, t3, t4, t5⟩ := row5_cells HN41.out
  clear hw4 hn4 ho4 hb4 r0 r1 r2 r3 r4 r5 m0 m1 m2' m3 m4 HU HN31 HN32 HZ3 HB3
  go_upto_region 3 with (go_at_call 68; refine (HF.out _ HB4.out).mono ?_; (rintro r w5 ⟨rfl, hb5⟩); have HN51 := Lib.hid (blk_keep9 hb5 HN41.out); have HN52 := Lib.hid (blk_keep9 hb5 HN42.out); have HB5 := Lib.hid (HB4.out.trans (hb5.mono HB4.out.size)); (obtain ⟨v0, v1, v2, v3, v4, v5⟩ := row5_cells HN51.out); clear hb5)
  have hn6 := heap_set w5 w.heap.size 4 (.slice B4 DD C4) _ _ HN51.out
  have ho6 := (set_blk9 w5 w.heap.size 4 (w.heap.size + 1) (.slice B4 DD C4) (by omega)).trans HN52.out
  have hb6 := HB5.out.setCell (p := ⟨w.heap.size, 4, none⟩) (Nat.le_refl _) (.slice B4 DD C4)
  obtain ⟨w6, hw6⟩ : ∃ w6, w5.setCell ⟨w.heap.size, 4, none⟩ (.slice B4 DD C4) = w6 := ⟨_, rfl⟩
  rw [hw6] at hn6 ho6 hb6 ⊢
  have HN61 := Lib.hid hn6
  have HN62 := Lib.hid ho6
  have HB6 := Lib.hid hb6
  obtain ⟨y0, y1, y2, y3, y4, y5⟩ := row5_cells (z0 := .int .i64 k) (z1 := .int .i64 n) (z2 := .slice B2 q2 C2) (z3 := .slice B3 LL C3) (z4 := .slice B4 DD C4) HN61.out
  obtain ⟨z0, z1, z2, z3, z4, z5⟩ := row5_cells HN62.out
  clear hw6 hn6 ho6 hb6 t0 t1 t2 t3 t4 t5 v0 v1 v2 v3 v4 v5 HF HN41 HN42 HN51 HN52 HB4 HB5
  go_wp2_with fail
  refine bodyPost_ret (results_cell_row rfl _ _ (w.heap.size + 1) 27 _ (0, 0) _ rfl (set5_row HN62.out) Try.underlying27 rfl (by kernel_rfl)) rfl ?_
  have hb7 := below_set5 (g := w.heap.size + 1) (x0 := .int .i64 k) (x1 := .int .i64 n) (x2 := .slice B2 q2 C2) (x3 := .slice B3 LL C3) (x4 := .slice B4 DD C4) HB6.out (Nat.le_succ _)
  exact ⟨_, _, _, _, _, rfl, HR.out _ hb7, hb7⟩
end
end Go.Proofs.Ytdkmomdioiipjaa
