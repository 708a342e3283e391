/- Contracts of functions that the law calls, and what they lean on (a part). -/
import Derived.Laws.BytesArg
import Derived.Test.YtliieeagbpmcgaaDoorPu28
import Derived.Test.YtliieeagbpmcgaaDoorPu34
namespace Go.Proofs.YtliieeagbpmcgaaDoor
section
open Go.RowKit Go.Sort
set_option linter.unusedVariables false
set_option maxRecDepth 100000
/-- It answers whether p. -/
def Tells (r : Ending) (p : Prop) : Prop := ∃ B : Bool, r = .returned (.bool B) ∧ (B = true ↔ p)
/-- A stream among these. -/
def strmL (l : Obs) : Prop := ∃ (i : Nat) (x : Ob), l.get? i = some x ∧ x.kind = 8
def wrongE (d : Ens) : Prop := ∃ (i : Nat) (s : ByteArray) (x : Ob), d.get? i = some (s, x) ∧ wrongB s x.kind = true
theorem Obs.get_lt : ∀ (l : Obs) (i : Nat) (x : Ob), l.get? i = some x → i < l.len
  | .nil, i, x, h => by simp [Obs.get?] at h
  | .cons y ys, 0, x, h => by rw [Obs.len]; omega
  | .cons y ys, i + 1, x, h => by rw [Obs.len]; have := Obs.get_lt ys i x (by simpa [Obs.get?] using h); omega
theorem Ens.get_lt (l : Ens) (i : Nat) (p : ByteArray × Ob) (h : l.get? i = some p) : i < l.len := by
  rcases Nat.lt_or_ge i l.len with h1 | h1
  · exact h1
  · rw [Ens.get_none l i h1] at h; cases h
section
variable {S : Nat → Prop} {w : World} {A : Option Addr} {c : Nat}
set_option maxHeartbeats 4000000 in
theorem indexOC (l : Obs) (hc : l.len ≤ c ∧ c ≤ 9223372036854775807) (hl : 0 < l.len → ∃ g o, A = some ⟨g, o, none⟩ ∧ S g ∧ ObsR w S l g o) (hS : ∀ g, S g → g < w.heap.size) :
    Calls Tryd.prog 60 #[.slice A l.len c, .func (.func 48) #[] #[]] w fun r w' => (∃ z, r = .returned (.int .i64 z) ∧ (0 ≤ z ↔ strmL l)) ∧ Below w.heap.size w w' := by
  have HL := Lib.hid hl
  have HS := Lib.hid hS
  obtain ⟨LL, hLL⟩ : ∃ LL, l.len = LL := ⟨_, rfl⟩
  have HLL := Lib.hid hLL
  have HMX : Hid (LL ≤ 9223372036854775807) := Lib.hid (by omega)
  rw [hLL]
  clear hl hS hLL hc
  go_enter Tryd.func60, Tryd.ntmps60
  go_wp2_with fail
  go_loopw [8] (fun iv wr => ∃ (i : Nat), i ≤ LL ∧ iv = .int .i64 i ∧ Hid (∀ j, j < i → ∀ x, l.get? j = some x → x.kind ≠ 8) ∧ Hid (Below w.heap.size w wr)) (fun iv _ => LL - (intOf iv).toNat)
  case atStart => exact ⟨0, Nat.zero_le _, rfl, Lib.hid (fun j h => absurd h (by omega)), Lib.hid (Below.refl _ _)⟩
  case round =>
    obtain ⟨i, hi, rfl, HNO, HBE⟩ := hrel
    by_cases hlt : i < LL
    · obtain ⟨x, hx⟩ := l.get_some i (by rw [HLL.out]; exact hlt)
      obtain ⟨g, o, rfl, hg, hobs⟩ := HL.out (by rw [HLL.out]; omega)
      obtain ⟨d0, d1, d2, d3, d4, k0, k1, k2, k3, k4, hxr⟩ := hobs.get l g o i x hx
      obtain rfl := kind_c0 hxr
      obtain ⟨KX, hKX⟩ : ∃ KX, x.kind = KX := ⟨_, rfl⟩
      rw [hKX] at k0
      have HK : Hid (∀ W, Below w.heap.size w W → W.cell? ⟨g, o + i * 5, none⟩ = some (.int .i64 KX) ∧ W.cell? ⟨g, o + i * 5 + 1, none⟩ = some d1 ∧ W.cell? ⟨g, o + i * 5 + 2, none⟩ = some d2 ∧ W.cell? ⟨g, o + i * 5 + 3, none⟩ = some d3 ∧ W.cell? ⟨g, o + i * 5 + 4, none⟩ = some d4) := Lib.hid (fun W hW => by
        have e := fun j => World.cell?_of_block (a := ⟨g, j, none⟩) (hW.block g (HS.out g hg))
        exact ⟨(e _).trans k0, (e _).trans k1, (e _).trans k2, (e _).trans k3, (e _).trans k4⟩)
      have HHX := Lib.hid hx
      have HKX := Lib.hid hKX
      have hli : (i : Int) < LL := by omega
      have hmx := HMX.out
      obtain ⟨m0, m1, m2, m3, m4⟩ := HK.out wr HBE.out
      clear hobs hg hx k0 k1 k2 k3 k4 hxr hKX
      obtain ⟨KS, hKS⟩ : ∃ KS, decide (KX = 8) = KS := ⟨_, rfl⟩
      have HKS := Lib.hid hKS
      clear hKS
      cases KS
      · go_wp2_with (go_at_call 48; refine (pStmC _ _ _ _ _ _).mono ?_; (rintro e w3 ⟨rfl, hb3⟩); rw [HKS.out]; have HB3 := Lib.hid (HBE.out.trans (hb3.mono HBE.out.size)); clear hb3)
        go_roundw
        case rel => exact ⟨i + 1, by omega, by go_num, Lib.hid (fun j hj x' hx' => by
          rcases Nat.lt_or_ge j i with h | h
          · exact HNO.out j h x' hx'
          · obtain rfl : j = i := by omega
            rw [HHX.out] at hx'
            injection hx' with hx'
            subst hx'
            rw [HKX.out]
            exact of_decide_eq_false HKS.out), HB3⟩
        case measure => simp [intOf]; omega
      · go_wp2_with (go_at_call 48; refine (pStmC _ _ _ _ _ _).mono ?_; (rintro e w3 ⟨rfl, hb3⟩); rw [HKS.out]; have HB3 := Lib.hid (HBE.out.trans (hb3.mono HBE.out.size)); clear hb3)
        go_ret
        exact ⟨⟨(i : Int), rfl, ⟨fun _ => ⟨i, x, HHX.out, by rw [HKX.out]; exact of_decide_eq_true HKS.out⟩, fun _ => by omega⟩⟩, HB3.out⟩
    · have hli : ¬ (i : Int) < LL := by omega
      have HIL : Hid (LL ≤ i) := Lib.hid (by omega)
      clear hlt hi
      go_wp2_with fail
      go_ret
      exact ⟨⟨-1, rfl, ⟨fun h => absurd h (by decide), fun ⟨j, x, hj, hk⟩ => absurd hk (HNO.out j (by have := Obs.get_lt l j x hj; have h1 := HLL.out; have h2 := HIL.out; omega) x hj)⟩⟩, HBE.out⟩
theorem containsOC (l : Obs) (hc : l.len ≤ c ∧ c ≤ 9223372036854775807) (hl : 0 < l.len → ∃ g o, A = some ⟨g, o, none⟩ ∧ S g ∧ ObsR w S l g o) (hS : ∀ g, S g → g < w.heap.size) :
    Calls Tryd.prog 47 #[.slice A l.len c, .func (.func 48) #[] #[]] w fun r w' => Tells r (strmL l) ∧ Below w.heap.size w w' := by
  have H := Lib.hid (indexOC (S := S) (w := w) (A := A) (c := c) l hc hl hS)
  clear hc hl hS
  obtain ⟨LL, hLL⟩ : ∃ LL, l.len = LL := ⟨_, rfl⟩
  rw [hLL] at H ⊢
  clear hLL
  go_enter Tryd.func47, Tryd.ntmps47
  go_wp2_with (go_at_call 60; refine H.out.mono ?_; (rintro e w3 ⟨⟨z, rfl, hz⟩, hb3⟩))
  go_ret
  exact ⟨⟨decide (0 ≤ z), rfl, by rw [decide_eq_true_eq]; exact hz⟩, hb3⟩
set_option maxHeartbeats 4000000 in
theorem indexEC (l : Ens) (hl : EnsV w S l A c) (hS : ∀ g, S g → g < w.heap.size) :
    Calls Tryd.prog 61 #[.slice A l.len c, .func (.func 50) #[] #[]] w fun r w' => (∃ z, r = .returned (.int .i64 z) ∧ (0 ≤ z ↔ wrongE l)) ∧ Below w.heap.size w w' := by
  have HL := Lib.hid hl.2
  have HS := Lib.hid hS
  obtain ⟨LL, hLL⟩ : ∃ LL, l.len = LL := ⟨_, rfl⟩
  have HLL := Lib.hid hLL
  have HMX : Hid (LL ≤ 9223372036854775807) := Lib.hid (by have := hl.1; omega)
  rw [hLL]
  clear hl hS hLL
  go_enter Tryd.func61, Tryd.ntmps61
  go_wp2_with fail
  go_loopw [8] (fun iv wr => ∃ (i : Nat), i ≤ LL ∧ iv = .int .i64 i ∧ Hid (∀ j, j < i → ∀ s x, l.get? j = some (s, x) → wrongB s x.kind = false) ∧ Hid (Below w.heap.size w wr)) (fun iv _ => LL - (intOf iv).toNat)
  case atStart => exact ⟨0, Nat.zero_le _, rfl, Lib.hid (fun j h => absurd h (by omega)), Lib.hid (Below.refl _ _)⟩
  case round =>
    obtain ⟨i, hi, rfl, HNO, HBE⟩ := hrel
    by_cases hlt : i < LL
    · obtain ⟨s, x, hx⟩ := l.get_some i (by rw [HLL.out]; exact hlt)
      obtain ⟨g, o, rfl, hg, hobs⟩ := HL.out (by rw [HLL.out]; omega)
      obtain ⟨d0, d1, d2, d3, d4, kk, k0, k1, k2, k3, k4, hxr⟩ := hobs.get l g o i s x hx
      obtain rfl := kind_c0 hxr
      obtain ⟨KX, hKX⟩ : ∃ KX, x.kind = KX := ⟨_, rfl⟩
      rw [hKX] at k0
      have HK : Hid (∀ W, Below w.heap.size w W → W.cell? ⟨g, o + i * 6, none⟩ = some (.string s) ∧ W.cell? ⟨g, o + i * 6 + 1, none⟩ = some (.int .i64 KX) ∧ W.cell? ⟨g, o + i * 6 + 2, none⟩ = some d1 ∧ W.cell? ⟨g, o + i * 6 + 3, none⟩ = some d2 ∧ W.cell? ⟨g, o + i * 6 + 4, none⟩ = some d3 ∧ W.cell? ⟨g, o + i * 6 + 5, none⟩ = some d4) := Lib.hid (fun W hW => by
        have e := fun j => World.cell?_of_block (a := ⟨g, j, none⟩) (hW.block g (HS.out g hg))
        exact ⟨(e _).trans kk, (e _).trans k0, (e _).trans k1, (e _).trans k2, (e _).trans k3, (e _).trans k4⟩)
      have HHX := Lib.hid hx
      have HKX := Lib.hid hKX
      have hli : (i : Int) < LL := by omega
      have hmx := HMX.out
      obtain ⟨m0, m1, m2, m3, m4, m5⟩ := HK.out wr HBE.out
      clear hobs hg hx kk k0 k1 k2 k3 k4 hxr hKX
      obtain ⟨KS, hKS⟩ : ∃ KS, wrongB s KX = KS := ⟨_, rfl⟩
      have HKS := Lib.hid hKS
      clear hKS
      cases KS
      · go_wp2_with (go_at_call 50; refine (wrongC _ _ _ _ _ _ _).mono ?_; (rintro e w3 ⟨rfl, hb3⟩); rw [HKS.out]; have HB3 := Lib.hid (HBE.out.trans (hb3.mono HBE.out.size)); clear hb3)
        go_roundw
        case rel => exact ⟨i + 1, by omega, by go_num, Lib.hid (fun j hj s' x' hx' => by
          rcases Nat.lt_or_ge j i with h | h
          · exact HNO.out j h s' x' hx'
          · obtain rfl : j = i := by omega
            rw [HHX.out] at hx'
            injection hx' with hx'
            injection hx' with hx1 hx2
            subst hx1 hx2
            rw [HKX.out]
            exact HKS.out), HB3⟩
        case measure => simp [intOf]; omega
      · go_wp2_with (go_at_call 50; refine (wrongC _ _ _ _ _ _ _).mono ?_; (rintro e w3 ⟨rfl, hb3⟩); rw [HKS.out]; have HB3 := Lib.hid (HBE.out.trans (hb3.mono HBE.out.size)); clear hb3)
        go_ret
        exact ⟨⟨(i : Int), rfl, ⟨fun _ => ⟨i, s, x, HHX.out, by rw [HKX.out]; exact HKS.out⟩, fun _ => by omega⟩⟩, HB3.out⟩
    · have hli : ¬ (i : Int) < LL := by omega
      have HIL : Hid (LL ≤ i) := Lib.hid (by omega)
      clear hlt hi
      go_wp2_with fail
      go_ret
      exact ⟨⟨-1, rfl, ⟨fun h => absurd h (by decide), fun ⟨j, s, x, hj, hk⟩ => by
        have := HNO.out j (by have := Ens.get_lt l j _ hj; have h1 := HLL.out; have h2 := HIL.out; omega) s x hj
        rw [this] at hk; cases hk⟩⟩, HBE.out⟩
theorem containsEC (l : Ens) (hl : EnsV w S l A c) (hS : ∀ g, S g → g < w.heap.size) :
    Calls Tryd.prog 49 #[.slice A l.len c, .func (.func 50) #[] #[]] w fun r w' => Tells r (wrongE l) ∧ Below w.heap.size w w' := by
  have H := Lib.hid (indexEC (S := S) (w := w) (A := A) (c := c) l hl hS)
  clear hl hS
  obtain ⟨LL, hLL⟩ : ∃ LL, l.len = LL := ⟨_, rfl⟩
  rw [hLL] at H ⊢
  clear hLL
  go_enter Tryd.func49, Tryd.ntmps49
  go_wp2_with (go_at_call 61; refine H.out.mono ?_; (rintro e w3 ⟨⟨z, rfl, hz⟩, hb3⟩))
  go_ret
  exact ⟨⟨decide (0 ≤ z), rfl, by rw [decide_eq_true_eq]; exact hz⟩, hb3⟩
end
/-- Keys that rise. -/
def riseP (l : Ens) : Prop := ∀ j s x t y, l.get? j = some (s, x) → l.get? (j + 1) = some (t, y) → ltS s t = true
set_option maxHeartbeats 4000000 in
theorem riseAC (l : Ens) (S : Nat → Prop) (w : World) (A : Option Addr) (c : Nat) (hl : EnsV w S l A c) (hS : ∀ g, S g → g < w.heap.size) :
    Calls Tryd.prog 51 #[.slice A l.len c] w fun r w' => Tells r (riseP l) ∧ Below w.heap.size w w' := by
  have HL := Lib.hid hl
  have HS := Lib.hid hS
  obtain ⟨LL, hLL⟩ : ∃ LL, l.len = LL := ⟨_, rfl⟩
  have HLL := Lib.hid hLL
  have hmx : LL ≤ 9223372036854775807 := by rw [← hLL]; have := hl.1; omega
  rw [hLL]
  clear hl hS hLL
  go_enter Tryd.func51, Tryd.ntmps51
  go_wp2_with fail
  go_loopw [3] (fun iv wr => ∃ (i : Nat), 1 ≤ i ∧ (i ≤ LL ∨ i = 1) ∧ iv = .int .i64 i ∧ Hid (∀ j, j + 1 < i → ∀ s x t y, l.get? j = some (s, x) → l.get? (j + 1) = some (t, y) → ltS s t = true) ∧ Hid (Below w.heap.size w wr)) (fun iv _ => LL - (intOf iv).toNat)
  case atStart => exact ⟨1, Nat.le_refl _, .inr rfl, rfl, Lib.hid (fun j h => absurd h (by omega)), Lib.hid (Below.refl _ _)⟩
  case round =>
    obtain ⟨i, h1, hi, rfl, HOK, HBE⟩ := hrel
    by_cases hlt : i < LL
    · obtain ⟨j, rfl⟩ : ∃ j, i = j + 1 := ⟨i - 1, by omega⟩
      obtain ⟨s, x, hx⟩ := l.get_some j (by rw [HLL.out]; omega)
      obtain ⟨t, y, hy⟩ := l.get_some (j + 1) (by rw [HLL.out]; omega)
      obtain ⟨g, o, rfl, hg, hobs⟩ := HL.out.2 (by rw [HLL.out]; omega)
      obtain ⟨_, _, _, _, _, ks, _⟩ := hobs.get l g o j s x hx
      obtain ⟨_, _, _, _, _, kt, _⟩ := hobs.get l g o (j + 1) t y hy
      have HK : Hid (∀ W, Below w.heap.size w W → W.cell? ⟨g, o + j * 6, none⟩ = some (.string s) ∧ W.cell? ⟨g, o + (j + 1) * 6, none⟩ = some (.string t)) := Lib.hid (fun W hW => by
        have e := fun j => World.cell?_of_block (a := ⟨g, j, none⟩) (hW.block g (HS.out g hg))
        exact ⟨(e _).trans ks, (e _).trans kt⟩)
      have HXY := Lib.hid (And.intro hx hy)
      obtain ⟨i2, hi2⟩ : ∃ i2, j + 1 = i2 := ⟨_, rfl⟩
      have HI2 := Lib.hid hi2
      rw [hi2] at hlt HK h1 hi HOK ⊢
      have hli : (i2 : Int) < LL := by omega
      have hij : (i2 : Int) - 1 = j := by omega
      have hwj : IntKind.i64.wrap ((i2 : Int) - 1) = j := by rw [hij]; exact IntWalk.i64_in _ (by omega)
      have w2 : IntKind.i64.wrap (j : Int) = j := IntWalk.i64_in _ (by omega)
      have hjb : (0 ≤ (j : Int) ∧ (j : Int) < (LL : Int)) = True := eq_true ⟨by omega, by omega⟩
      have hjc : (0 ≤ (i2 : Int) ∧ (i2 : Int) < (LL : Int)) = True := eq_true ⟨by omega, by omega⟩
      have hjn : (j < LL) = True := eq_true (by omega)
      have hjm : (i2 < LL) = True := eq_true hlt
      have HBD := Lib.hid HBE.out.drew
      obtain ⟨LT, hbl⟩ : ∃ LT, Op.bytesLess s.toList t.toList = LT := ⟨_, rfl⟩
      have HLT : Hid (ltS s t = LT) := Lib.hid hbl
      clear hobs hg hx hy ks kt hi2
      cases LT
      all_goals
        go_upto_region 4 with fail
        refine wp_region_heldR (fun W => W.cell? ⟨g, o + j * 6, none⟩ = some (.string s) ∧ W.cell? ⟨g, o + i2 * 6, none⟩ = some (.string t)) 1000 (by kernel_rfl) (HK.out _ HBD.out) (fun hHeld => ?_)
        refine wpAnyR_take 0 rfl (by kernel_rfl) (by kernel_rfl) (by kernel_rfl) (by kernel_rfl) (fun _ _ _ h => h) (by rfl) (v := ?_) ?_ (by assumption) ?_
        rotate_left
        focus
          intro wS hSw
          (try dsimp only at hSw)
          go_simp
          (try simp only [hwj])
          (try simp only [w2, hjb, if_true, Int.toNat_natCast])
          (try simp only [hjc, if_true, Int.toNat_natCast])
          (try simp only [hjn, if_true])
          (try simp only [hjm, if_true])
          (try simp only [hbl, Bool.not_true, Bool.not_false])
          try with_reducible rfl
        intro hHeld
        try simp only [Act.put, List.setIfInBounds_toArray, List.set_cons_zero, List.set_cons_succ]
        refine wpAnyR_take 1 rfl (by kernel_rfl) (by kernel_rfl) (by kernel_rfl) (by kernel_rfl) (fun _ _ _ h => h) (by rfl) (v := ?_) ?_ (by assumption) ?_
        rotate_left
        focus
          intro wS hSw
          (try dsimp only at hSw)
          go_simp
          (try simp only [hwj])
          (try simp only [w2, hjb, if_true, Int.toNat_natCast])
          (try simp only [hjc, if_true, Int.toNat_natCast])
          (try simp only [hjn, if_true])
          (try simp only [hjm, if_true])
          (try simp only [hbl, Bool.not_true, Bool.not_false])
          try with_reducible rfl
        intro hHeld
        try simp only [Act.put, List.setIfInBounds_toArray, List.set_cons_zero, List.set_cons_succ]
        refine wpAnyR_take 2 rfl (by kernel_rfl) (by kernel_rfl) (by kernel_rfl) (by kernel_rfl) (fun _ _ _ h => h) (by rfl) (v := ?_) ?_ (by assumption) ?_
        rotate_left
        focus
          intro wS hSw
          (try dsimp only at hSw)
          go_simp
          (try simp only [hwj])
          (try simp only [w2, hjb, if_true, Int.toNat_natCast])
          (try simp only [hjc, if_true, Int.toNat_natCast])
          (try simp only [hjn, if_true])
          (try simp only [hjm, if_true])
          (try simp only [hbl, Bool.not_true, Bool.not_false])
          try with_reducible rfl
        intro hHeld
        try simp only [Act.put, List.setIfInBounds_toArray, List.set_cons_zero, List.set_cons_succ]
        refine wpAnyR_take 3 rfl (by kernel_rfl) (by kernel_rfl) (by kernel_rfl) (by kernel_rfl) (fun _ _ _ h => h) (by rfl) (v := ?_) ?_ (by assumption) ?_
        rotate_left
        focus
          intro wS hSw
          (try dsimp only at hSw)
          go_simp
          (try simp only [hwj])
          (try simp only [w2, hjb, if_true, Int.toNat_natCast])
          (try simp only [hjc, if_true, Int.toNat_natCast])
          (try simp only [hjn, if_true])
          (try simp only [hjm, if_true])
          (try simp only [hbl, Bool.not_true, Bool.not_false])
          try with_reducible rfl
        intro hHeld
        try simp only [Act.put, List.setIfInBounds_toArray, List.set_cons_zero, List.set_cons_succ]
        refine wpAnyR_take 4 rfl (by kernel_rfl) (by kernel_rfl) (by kernel_rfl) (by kernel_rfl) (fun _ _ _ h => h) (by rfl) (v := ?_) ?_ (by assumption) ?_
        rotate_left
        focus
          intro wS hSw
          (try dsimp only at hSw)
          go_simp
          (try simp only [hwj])
          (try simp only [w2, hjb, if_true, Int.toNat_natCast])
          (try simp only [hjc, if_true, Int.toNat_natCast])
          (try simp only [hjn, if_true])
          (try simp only [hjm, if_true])
          (try simp only [hbl, Bool.not_true, Bool.not_false])
          try with_reducible rfl
        intro hHeld
        try simp only [Act.put, List.setIfInBounds_toArray, List.set_cons_zero, List.set_cons_succ]
        refine wpAnyR_take 5 rfl (by kernel_rfl) (by kernel_rfl) (by kernel_rfl) (by kernel_rfl) (fun _ _ _ h => h) (by rfl) (v := ?_) ?_ (by assumption) ?_
        rotate_left
        focus
          intro wS hSw
          (try dsimp only at hSw)
          go_simp
          (try simp only [hwj])
          (try simp only [w2, hjb, if_true, Int.toNat_natCast])
          (try simp only [hjc, if_true, Int.toNat_natCast])
          (try simp only [hjn, if_true])
          (try simp only [hjm, if_true])
          (try simp only [hbl, Bool.not_true, Bool.not_false])
          try with_reducible rfl
        intro hHeld
        try simp only [Act.put, List.setIfInBounds_toArray, List.set_cons_zero, List.set_cons_succ]
        refine wpAnyR_take 6 rfl (by kernel_rfl) (by kernel_rfl) (by kernel_rfl) (by kernel_rfl) (fun _ _ _ h => h) (by rfl) (v := ?_) ?_ (by assumption) ?_
        rotate_left
        focus
          intro wS hSw
          (try dsimp only at hSw)
          go_simp
          (try simp only [hwj])
          (try simp only [w2, hjb, if_true, Int.toNat_natCast])
          (try simp only [hjc, if_true, Int.toNat_natCast])
          (try simp only [hjn, if_true])
          (try simp only [hjm, if_true])
          (try simp only [hbl, Bool.not_true, Bool.not_false])
          try with_reducible rfl
        intro hHeld
        try simp only [Act.put, List.setIfInBounds_toArray, List.set_cons_zero, List.set_cons_succ]
        refine wpAnyR_take 7 rfl (by kernel_rfl) (by kernel_rfl) (by kernel_rfl) (by kernel_rfl) (fun _ _ _ h => h) (by rfl) (v := ?_) ?_ (by assumption) ?_
        rotate_left
        focus
          intro wS hSw
          (try dsimp only at hSw)
          go_simp
          (try simp only [hwj])
          (try simp only [w2, hjb, if_true, Int.toNat_natCast])
          (try simp only [hjc, if_true, Int.toNat_natCast])
          (try simp only [hjn, if_true])
          (try simp only [hjm, if_true])
          (try simp only [hbl, Bool.not_true, Bool.not_false])
          try with_reducible rfl
        intro hHeld
        try simp only [Act.put, List.setIfInBounds_toArray, List.set_cons_zero, List.set_cons_succ]
        refine wpAnyR_take 8 rfl (by kernel_rfl) (by kernel_rfl) (by kernel_rfl) (by kernel_rfl) (fun _ _ _ h => h) (by rfl) (v := ?_) ?_ (by assumption) ?_
        rotate_left
        focus
          intro wS hSw
          (try dsimp only at hSw)
          go_simp
          (try simp only [hwj])
          (try simp only [w2, hjb, if_true, Int.toNat_natCast])
          (try simp only [hjc, if_true, Int.toNat_natCast])
          (try simp only [hjn, if_true])
          (try simp only [hjm, if_true])
          (try simp only [hbl, Bool.not_true, Bool.not_false])
          try with_reducible rfl
        intro hHeld
        try simp only [Act.put, List.setIfInBounds_toArray, List.set_cons_zero, List.set_cons_succ]
        refine wpAnyR_take 9 rfl (by kernel_rfl) (by kernel_rfl) (by kernel_rfl) (by kernel_rfl) (fun _ _ _ h => h) (by rfl) (v := ?_) ?_ (by assumption) ?_
        rotate_left
        focus
          intro wS hSw
          (try dsimp only at hSw)
          go_simp
          (try simp only [hwj])
          (try simp only [w2, hjb, if_true, Int.toNat_natCast])
          (try simp only [hjc, if_true, Int.toNat_natCast])
          (try simp only [hjn, if_true])
          (try simp only [hjm, if_true])
          (try simp only [hbl, Bool.not_true, Bool.not_false])
          try with_reducible rfl
        intro hHeld
        try simp only [Act.put, List.setIfInBounds_toArray, List.set_cons_zero, List.set_cons_succ]
        refine wpAnyR_take 10 rfl (by kernel_rfl) (by kernel_rfl) (by kernel_rfl) (by kernel_rfl) (fun _ _ _ h => h) (by rfl) (v := ?_) ?_ (by assumption) ?_
        rotate_left
        focus
          intro wS hSw
          (try dsimp only at hSw)
          go_simp
          (try simp only [hwj])
          (try simp only [w2, hjb, if_true, Int.toNat_natCast])
          (try simp only [hjc, if_true, Int.toNat_natCast])
          (try simp only [hjn, if_true])
          (try simp only [hjm, if_true])
          (try simp only [hbl, Bool.not_true, Bool.not_false])
          try with_reducible rfl
        intro hHeld
        try simp only [Act.put, List.setIfInBounds_toArray, List.set_cons_zero, List.set_cons_succ]
        refine wpAnyR_take 11 rfl (by kernel_rfl) (by kernel_rfl) (by kernel_rfl) (by kernel_rfl) (fun _ _ _ h => h) (by rfl) (v := ?_) ?_ (by assumption) ?_
        rotate_left
        focus
          intro wS hSw
          (try dsimp only at hSw)
          go_simp
          (try simp only [hwj])
          (try simp only [w2, hjb, if_true, Int.toNat_natCast])
          (try simp only [hjc, if_true, Int.toNat_natCast])
          (try simp only [hjn, if_true])
          (try simp only [hjm, if_true])
          (try simp only [hbl, Bool.not_true, Bool.not_false])
          try with_reducible rfl
        intro hHeld
        try simp only [Act.put, List.setIfInBounds_toArray, List.set_cons_zero, List.set_cons_succ]
        refine wpAnyR_done (by kernel_rfl) ?_
        refine NoPanic.normal ?_
        go_wp2_with fail
      · go_ret
        exact ⟨⟨false, rfl, ⟨(fun h => by cases h), fun h => by
          have := h j s x t y HXY.out.1 HXY.out.2
          rw [HLT.out] at this; cases this⟩⟩, HBD.out⟩
      · go_roundw
        case rel => exact ⟨i2 + 1, by omega, .inl (by omega), by go_num, Lib.hid (fun j' hj' s' x' t' y' hx' hy' => by
          rcases Nat.lt_or_ge (j' + 1) i2 with h | h
          · exact HOK.out j' h s' x' t' y' hx' hy'
          · have hjj : j' = j := by have := HI2.out; omega
            subst hjj
            have e1 := HXY.out.1
            have e2 := HXY.out.2
            rw [hx'] at e1
            rw [← HI2.out] at *
            rw [hy'] at e2
            injection e1 with e1
            injection e1 with e1 _
            injection e2 with e2
            injection e2 with e2 _
            rw [e1, e2]
            exact HLT.out), HBD⟩
        case measure => simp [intOf]; omega
    · have hli : ¬ (i : Int) < LL := by omega
      have HIL : Hid (LL ≤ i) := Lib.hid (by omega)
      clear hlt hi
      go_wp2_with fail
      go_ret
      exact ⟨⟨true, rfl, ⟨fun _ j s x t y hx hy => HOK.out j (by have := Ens.get_lt l _ _ hy; have h1 := HLL.out; have h2 := HIL.out; omega) s x t y hx hy, fun _ => rfl⟩⟩, HBE.out⟩
end
end Go.Proofs.YtliieeagbpmcgaaDoor
