/- Contracts of functions that the law calls, and what they lean on (a part). -/
import Derived.Test.YtliieeagbpmcgaaGreatDoorPv30
import Derived.Test.YtliieeagbpmcgaaGreatDoorPv33
import Derived.Test.YtliieeagbpmcgaaGreatDoorPv34
import Derived.Test.YtliieeagbpmcgaaGreatDoorPv35
namespace Go.Proofs.YtliieeagbpmcgaaGreatDoor
section
open Go.RowKit Go.Sort
set_option linter.unusedVariables false
set_option maxRecDepth 100000
/-- It answers whether p. -/
def Tells (r : Ending) (p : Prop) : Prop := ∃ B : Bool, r = .returned (.bool B) ∧ (B = true ↔ p)
/-- A stream among these. -/
def strmL (l : Obs) : Prop := ∃ (i : Nat) (x : Ob), l.get? i = some x ∧ x.kind = 8
def wrongE (d : Ens) : Prop := ∃ (i : Nat) (s : ByteArray) (x : Ob), d.get? i = some (s, x) ∧ wrongB s x.kind = true
theorem Obs.get_lt : ∀ (l : Obs) (i : Nat) (x : Ob), l.get? i = some x → i < l.len
  | .nil, i, x, h => by simp [Obs.get?] at h
  | .cons y ys, 0, x, h => by rw [Obs.len]; omega
  | .cons y ys, i + 1, x, h => by rw [Obs.len]; have := Obs.get_lt ys i x (by simpa [Obs.get?] using h); omega
theorem Ens.get_lt (l : Ens) (i : Nat) (p : ByteArray × Ob) (h : l.get? i = some p) : i < l.len := by
  rcases Nat.lt_or_ge i l.len with h1 | h1
  · exact h1
  · rw [Ens.get_none l i h1] at h; cases h
section
variable {S : Nat → Prop} {w : World} {A : Option Addr} {c : Nat}
set_option maxHeartbeats 4000000 in
theorem indexOC (l : Obs) (hc : l.len ≤ c ∧ c ≤ 9223372036854775807) (hl : 0 < l.len → ∃ g o, A = some ⟨g, o, none⟩ ∧ S g ∧ ObsR w S l g o) (hS : ∀ g, S g → g < w.heap.size) :
    Calls Tryz.prog 211 #[.slice A l.len c, .func (.func 168) #[] #[]] w fun r w' => (∃ z, r = .returned (.int .i64 z) ∧ (0 ≤ z ↔ strmL l)) ∧ Below w.heap.size w w' := by
  have HL := Lib.hid hl
  have HS := Lib.hid hS
  obtain ⟨LL, hLL⟩ : ∃ LL, l.len = LL := ⟨_, rfl⟩
  have HLL := Lib.hid hLL
  have HMX : Hid (LL ≤ 9223372036854775807) := Lib.hid (by omega)
  rw [hLL]
  clear hl hS hLL hc
  go_enter Tryz.func211, Tryz.ntmps211
  go_wp2_with fail
  go_loopw [8] (fun iv wr => ∃ (i : Nat), i ≤ LL ∧ iv = .int .i64 i ∧ Hid (∀ j, j < i → ∀ x, l.get? j = some x → x.kind ≠ 8) ∧ Hid (Below w.heap.size w wr)) (fun iv _ => LL - (intOf iv).toNat)
  case atStart => exact ⟨0, Nat.zero_le _, rfl, Lib.hid (fun j h => absurd h (by omega)), Lib.hid (Below.refl _ _)⟩
  case round =>
    obtain ⟨i, hi, rfl, HNO, HBE⟩ := hrel
    by_cases hlt : i < LL
    · obtain ⟨x, hx⟩ := l.get_some i (by rw [HLL.out]; exact hlt)
      obtain ⟨g, o, rfl, hg, hobs⟩ := HL.out (by rw [HLL.out]; omega)
      obtain ⟨d0, d1, d2, d3, d4, k0, k1, k2, k3, k4, hxr⟩ := hobs.get l g o i x hx
      obtain rfl := kind_c0 hxr
      obtain ⟨KX, hKX⟩ : ∃ KX, x.kind = KX := ⟨_, rfl⟩
      rw [hKX] at k0
      have HK : Hid (∀ W, Below w.heap.size w W → W.cell? ⟨g, o + i * 5, none⟩ = some (.int .i64 KX) ∧ W.cell? ⟨g, o + i * 5 + 1, none⟩ = some d1 ∧ W.cell? ⟨g, o + i * 5 + 2, none⟩ = some d2 ∧ W.cell? ⟨g, o + i * 5 + 3, none⟩ = some d3 ∧ W.cell? ⟨g, o + i * 5 + 4, none⟩ = some d4) := Lib.hid (fun W hW => by
        have e := fun j => World.cell?_of_block (a := ⟨g, j, none⟩) (hW.block g (HS.out g hg))
        exact ⟨(e _).trans k0, (e _).trans k1, (e _).trans k2, (e _).trans k3, (e _).trans k4⟩)
      have HHX := Lib.hid hx
      have HKX := Lib.hid hKX
      have hli : (i : Int) < LL := by omega
      have hmx := HMX.out
      obtain ⟨m0, m1, m2, m3, m4⟩ := HK.out wr HBE.out
      clear hobs hg hx k0 k1 k2 k3 k4 hxr hKX
      obtain ⟨KS, hKS⟩ : ∃ KS, decide (KX = 8) = KS := ⟨_, rfl⟩
      have HKS := Lib.hid hKS
      clear hKS
      cases KS
      · go_wp2_with (go_at_call 168; refine (pStmC _ _ _ _ _ _).mono ?_; (rintro e w3 ⟨rfl, hb3⟩); rw [HKS.out]; have HB3 := Lib.hid (HBE.out.trans (hb3.mono HBE.out.size)); clear hb3)
        go_roundw
        case rel => exact ⟨i + 1, by omega, by go_num, Lib.hid (fun j hj x' hx' => by
          rcases Nat.lt_or_ge j i with h | h
          · exact HNO.out j h x' hx'
          · obtain rfl : j = i := by omega
            rw [HHX.out] at hx'
            injection hx' with hx'
            subst hx'
            rw [HKX.out]
            exact of_decide_eq_false HKS.out), HB3⟩
        case measure => simp [intOf]; omega
      · go_wp2_with (go_at_call 168; refine (pStmC _ _ _ _ _ _).mono ?_; (rintro e w3 ⟨rfl, hb3⟩); rw [HKS.out]; have HB3 := Lib.hid (HBE.out.trans (hb3.mono HBE.out.size)); clear hb3)
        go_ret
        exact ⟨⟨(i : Int), rfl, ⟨fun _ => ⟨i, x, HHX.out, by rw [HKX.out]; exact of_decide_eq_true HKS.out⟩, fun _ => by omega⟩⟩, HB3.out⟩
    · have hli : ¬ (i : Int) < LL := by omega
      have HIL : Hid (LL ≤ i) := Lib.hid (by omega)
      clear hlt hi
      go_wp2_with fail
      go_ret
      exact ⟨⟨-1, rfl, ⟨fun h => absurd h (by decide), fun ⟨j, x, hj, hk⟩ => absurd hk (HNO.out j (by have := Obs.get_lt l j x hj; have h1 := HLL.out; have h2 := HIL.out; omega) x hj)⟩⟩, HBE.out⟩
theorem containsOC (l : Obs) (hc : l.len ≤ c ∧ c ≤ 9223372036854775807) (hl : 0 < l.len → ∃ g o, A = some ⟨g, o, none⟩ ∧ S g ∧ ObsR w S l g o) (hS : ∀ g, S g → g < w.heap.size) :
    Calls Tryz.prog 167 #[.slice A l.len c, .func (.func 168) #[] #[]] w fun r w' => Tells r (strmL l) ∧ Below w.heap.size w w' := by
  have H := Lib.hid (indexOC (S := S) (w := w) (A := A) (c := c) l hc hl hS)
  clear hc hl hS
  obtain ⟨LL, hLL⟩ : ∃ LL, l.len = LL := ⟨_, rfl⟩
  rw [hLL] at H ⊢
  clear hLL
  go_enter Tryz.func167, Tryz.ntmps167
  go_wp2_with (go_at_call 211; refine H.out.mono ?_; (rintro e w3 ⟨⟨z, rfl, hz⟩, hb3⟩))
  go_ret
  exact ⟨⟨decide (0 ≤ z), rfl, by rw [decide_eq_true_eq]; exact hz⟩, hb3⟩
set_option maxHeartbeats 4000000 in
theorem indexEC (l : Ens) (hl : EnsV w S l A c) (hS : ∀ g, S g → g < w.heap.size) :
    Calls Tryz.prog 212 #[.slice A l.len c, .func (.func 170) #[] #[]] w fun r w' => (∃ z, r = .returned (.int .i64 z) ∧ (0 ≤ z ↔ wrongE l)) ∧ Below w.heap.size w w' := by
  have HL := Lib.hid hl.2
  have HS := Lib.hid hS
  obtain ⟨LL, hLL⟩ : ∃ LL, l.len = LL := ⟨_, rfl⟩
  have HLL := Lib.hid hLL
  have HMX : Hid (LL ≤ 9223372036854775807) := Lib.hid (by have := hl.1; omega)
  rw [hLL]
  clear hl hS hLL
  go_enter Tryz.func212, Tryz.ntmps212
  go_wp2_with fail
  go_loopw [8] (fun iv wr => ∃ (i : Nat), i ≤ LL ∧ iv = .int .i64 i ∧ Hid (∀ j, j < i → ∀ s x, l.get? j = some (s, x) → wrongB s x.kind = false) ∧ Hid (Below w.heap.size w wr)) (fun iv _ => LL - (intOf iv).toNat)
  case atStart => exact ⟨0, Nat.zero_le _, rfl, Lib.hid (fun j h => absurd h (by omega)), Lib.hid (Below.refl _ _)⟩
  case round =>
    obtain ⟨i, hi, rfl, HNO, HBE⟩ := hrel
    by_cases hlt : i < LL
    · obtain ⟨s, x, hx⟩ := l.get_some i (by rw [HLL.out]; exact hlt)
      obtain ⟨g, o, rfl, hg, hobs⟩ := HL.out (by rw [HLL.out]; omega)
      obtain ⟨d0, d1, d2, d3, d4, kk, k0, k1, k2, k3, k4, hxr⟩ := hobs.get l g o i s x hx
      obtain rfl := kind_c0 hxr
      obtain ⟨KX, hKX⟩ : ∃ KX, x.kind = KX := ⟨_, rfl⟩
      rw [hKX] at k0
      have HK : Hid (∀ W, Below w.heap.size w W → W.cell? ⟨g, o + i * 6, none⟩ = some (.string s) ∧ W.cell? ⟨g, o + i * 6 + 1, none⟩ = some (.int .i64 KX) ∧ W.cell? ⟨g, o + i * 6 + 2, none⟩ = some d1 ∧ W.cell? ⟨g, o + i * 6 + 3, none⟩ = some d2 ∧ W.cell? ⟨g, o + i * 6 + 4, none⟩ = some d3 ∧ W.cell? ⟨g, o + i * 6 + 5, none⟩ = some d4) := Lib.hid (fun W hW => by
        have e := fun j => World.cell?_of_block (a := ⟨g, j, none⟩) (hW.block g (HS.out g hg))
        exact ⟨(e _).trans kk, (e _).trans k0, (e _).trans k1, (e _).trans k2, (e _).trans k3, (e _).trans k4⟩)
      have HHX := Lib.hid hx
      have HKX := Lib.hid hKX
      have hli : (i : Int) < LL := by omega
      have hmx := HMX.out
      obtain ⟨m0, m1, m2, m3, m4, m5⟩ := HK.out wr HBE.out
      clear hobs hg hx kk k0 k1 k2 k3 k4 hxr hKX
      obtain ⟨KS, hKS⟩ : ∃ KS, wrongB s KX = KS := ⟨_, rfl⟩
      have HKS := Lib.hid hKS
      clear hKS
      cases KS
      · go_wp2_with (go_at_call 170; refine (wrongC _ _ _ _ _ _ _).mono ?_; (rintro e w3 ⟨rfl, hb3⟩); rw [HKS.out]; have HB3 := Lib.hid (HBE.out.trans (hb3.mono HBE.out.size)); clear hb3)
        go_roundw
        case rel => exact ⟨i + 1, by omega, by go_num, Lib.hid (fun j hj s' x' hx' => by
          rcases Nat.lt_or_ge j i with h | h
          · exact HNO.out j h s' x' hx'
          · obtain rfl : j = i := by omega
            rw [HHX.out] at hx'
            injection hx' with hx'
            injection hx' with hx1 hx2
            subst hx1 hx2
            rw [HKX.out]
            exact HKS.out), HB3⟩
        case measure => simp [intOf]; omega
      · go_wp2_with (go_at_call 170; refine (wrongC _ _ _ _ _ _ _).mono ?_; (rintro e w3 ⟨rfl, hb3⟩); rw [HKS.out]; have HB3 := Lib.hid (HBE.out.trans (hb3.mono HBE.out.size)); clear hb3)
        go_ret
        exact ⟨⟨(i : Int), rfl, ⟨fun _ => ⟨i, s, x, HHX.out, by rw [HKX.out]; exact HKS.out⟩, fun _ => by omega⟩⟩, HB3.out⟩
    · have hli : ¬ (i : Int) < LL := by omega
      have HIL : Hid (LL ≤ i) := Lib.hid (by omega)
      clear hlt hi
      go_wp2_with fail
      go_ret
      exact ⟨⟨-1, rfl, ⟨fun h => absurd h (by decide), fun ⟨j, s, x, hj, hk⟩ => by
        have := HNO.out j (by have := Ens.get_lt l j _ hj; have h1 := HLL.out; have h2 := HIL.out; omega) s x hj
        rw [this] at hk; cases hk⟩⟩, HBE.out⟩
theorem containsEC (l : Ens) (hl : EnsV w S l A c) (hS : ∀ g, S g → g < w.heap.size) :
    Calls Tryz.prog 169 #[.slice A l.len c, .func (.func 170) #[] #[]] w fun r w' => Tells r (wrongE l) ∧ Below w.heap.size w w' := by
  have H := Lib.hid (indexEC (S := S) (w := w) (A := A) (c := c) l hl hS)
  clear hl hS
  obtain ⟨LL, hLL⟩ : ∃ LL, l.len = LL := ⟨_, rfl⟩
  rw [hLL] at H ⊢
  clear hLL
  go_enter Tryz.func169, Tryz.ntmps169
  go_wp2_with (go_at_call 212; refine H.out.mono ?_; (rintro e w3 ⟨⟨z, rfl, hz⟩, hb3⟩))
  go_ret
  exact ⟨⟨decide (0 ≤ z), rfl, by rw [decide_eq_true_eq]; exact hz⟩, hb3⟩
end
/-- Keys that rise. -/
def riseP (l : Ens) : Prop := ∀ j s x t y, l.get? j = some (s, x) → l.get? (j + 1) = some (t, y) → ltS s t = true
set_option maxHeartbeats 4000000 in
theorem riseAC (l : Ens) (S : Nat → Prop) (w : World) (A : Option Addr) (c : Nat) (hl : EnsV w S l A c) (hS : ∀ g, S g → g < w.heap.size) :
    Calls Tryz.prog 171 #[.slice A l.len c] w fun r w' => Tells r (riseP l) ∧ Below w.heap.size w w' := by
  have HL := Lib.hid hl
  have HS := Lib.hid hS
  obtain ⟨LL, hLL⟩ : ∃ LL, l.len = LL := ⟨_, rfl⟩
  have HLL := Lib.hid hLL
  have hmx : LL ≤ 9223372036854775807 := by rw [← hLL]; have := hl.1; omega
  rw [hLL]
  clear hl hS hLL
  go_enter Tryz.func171, Tryz.ntmps171
  go_wp2_with fail
  go_loopw [3] (fun iv wr => ∃ (i : Nat), 1 ≤ i ∧ (i ≤ LL ∨ i = 1) ∧ iv = .int .i64 i ∧ Hid (∀ j, j + 1 < i → ∀ s x t y, l.get? j = some (s, x) → l.get? (j + 1) = some (t, y) → ltS s t = true) ∧ Hid (Below w.heap.size w wr)) (fun iv _ => LL - (intOf iv).toNat)
  case atStart => exact ⟨1, Nat.le_refl _, .inr rfl, rfl, Lib.hid (fun j h => absurd h (by omega)), Lib.hid (Below.refl _ _)⟩
  case round =>
    obtain ⟨i, h1, hi, rfl, HOK, HBE⟩ := hrel
    by_cases hlt : i < LL
    · obtain ⟨j, rfl⟩ : ∃ j, i = j + 1 := ⟨i - 1, by omega⟩
      obtain ⟨s, x, hx⟩ := l.get_some j (by rw [HLL.out]; omega)
      obtain ⟨t, y, hy⟩ := l.get_some (j + 1) (by rw [HLL.out]; omega)
      obtain ⟨g, o, rfl, hg, hobs⟩ := HL.out.2 (by rw [HLL.out]; omega)
      obtain ⟨_, _, _, _, _, ks, _⟩ := hobs.get l g o j s x hx
      obtain ⟨_, _, _, _, _, kt, _⟩ := hobs.get l g o (j + 1) t y hy
      have HK : Hid (∀ W, Below w.heap.size w W → W.cell? ⟨g, o + j * 6, none⟩ = some (.string s) ∧ W.cell? ⟨g, o + (j + 1) * 6, none⟩ = some (.string t)) := Lib.hid (fun W hW => by
        have e := fun j => World.cell?_of_block (a := ⟨g, j, none⟩) (hW.block g (HS.out g hg))
        exact ⟨(e _).trans ks, (e _).trans kt⟩)
      have HXY := Lib.hid (And.intro hx hy)
      obtain ⟨i2, hi2⟩ : ∃ i2, j + 1 = i2 := ⟨_, rfl⟩
      have HI2 := Lib.hid hi2
      rw [hi2] at hlt HK h1 hi HOK ⊢
      have hli : (i2 : Int) < LL := by omega
      have hij : (i2 : Int) - 1 = j := by omega
      have hwj : IntKind.i64.wrap ((i2 : Int) - 1) = j := by rw [hij]; exact IntWalk.i64_in _ (by omega)
      have w2 : IntKind.i64.wrap (j : Int) = j := IntWalk.i64_in _ (by omega)
      have hjb : (0 ≤ (j : Int) ∧ (j : Int) < (LL : Int)) = True := eq_true ⟨by omega, by omega⟩
      have hjc : (0 ≤ (i2 : Int) ∧ (i2 : Int) < (LL : Int)) = True := eq_true ⟨by omega, by omega⟩
      have hjn : (j < LL) = True := eq_true (by omega)
      have hjm : (i2 < LL) = True := eq_true hlt
      have HBD := Lib.hid HBE.out.drew
      obtain ⟨LT, hbl⟩ : ∃ LT, Op.bytesLess s.toList t.toList = LT := ⟨_, rfl⟩
      have HLT : Hid (ltS s t = LT) := Lib.hid hbl
      clear hobs hg hx hy ks kt hi2
      cases LT
      all_goals
        go_upto_region 4 with fail
        refine wp_region_heldR (fun W => W.cell? ⟨g, o + j * 6, none⟩ = some (.string s) ∧ W.cell? ⟨g, o + i2 * 6, none⟩ = some (.string t)) 1000 (by kernel_rfl) (HK.out _ HBD.out) (fun hHeld => ?_)
        refine wpAnyR_take 0 rfl (by kernel_rfl) (by kernel_rfl) (by kernel_rfl) (by kernel_rfl) (fun _ _ _ h => h) (by rfl) (v := ?_) ?_ (by assumption) ?_
        rotate_left
        focus
          intro wS hSw
          (try dsimp only at hSw)
          go_simp
          (try simp only [hwj])
          (try simp only [w2, hjb, if_true, Int.toNat_natCast])
          (try simp only [hjc, if_true, Int.toNat_natCast])
          (try simp only [hjn, if_true])
          (try simp only [hjm, if_true])
          (try simp only [hbl, Bool.not_true, Bool.not_false])
          try with_reducible rfl
        intro hHeld
        try simp only [Act.put, List.setIfInBounds_toArray, List.set_cons_zero, List.set_cons_succ]
        refine wpAnyR_take 1 rfl (by kernel_rfl) (by kernel_rfl) (by kernel_rfl) (by kernel_rfl) (fun _ _ _ h => h) (by rfl) (v := ?_) ?_ (by assumption) ?_
        rotate_left
        focus
          intro wS hSw
          (try dsimp only at hSw)
          go_simp
          (try simp only [hwj])
          (try simp only [w2, hjb, if_true, Int.toNat_natCast])
          (try simp only [hjc, if_true, Int.toNat_natCast])
          (try simp only [hjn, if_true])
          (try simp only [hjm, if_true])
          (try simp only [hbl, Bool.not_true, Bool.not_false])
          try with_reducible rfl
        intro hHeld
        try simp only [Act.put, List.setIfInBounds_toArray, List.set_cons_zero, List.set_cons_succ]
        refine wpAnyR_take 2 rfl (by kernel_rfl) (by kernel_rfl) (by kernel_rfl) (by kernel_rfl) (fun _ _ _ h => h) (by rfl) (v := ?_) ?_ (by assumption) ?_
        rotate_left
        focus
          intro wS hSw
          (try dsimp only at hSw)
          go_simp
          (try simp only [hwj])
          (try simp only [w2, hjb, if_true, Int.toNat_natCast])
          (try simp only [hjc, if_true, Int.toNat_natCast])
          (try simp only [hjn, if_true])
          (try simp only [hjm, if_true])
          (try simp only [hbl, Bool.not_true, Bool.not_false])
          try with_reducible rfl
        intro hHeld
        try simp only [Act.put, List.setIfInBounds_toArray, List.set_cons_zero, List.set_cons_succ]
        refine wpAnyR_take 3 rfl (by kernel_rfl) (by kernel_rfl) (by kernel_rfl) (by kernel_rfl) (fun _ _ _ h => h) (by rfl) (v := ?_) ?_ (by assumption) ?_
        rotate_left
        focus
          intro wS hSw
          (try dsimp only at hSw)
          go_simp
          (try simp only [hwj])
          (try simp only [w2, hjb, if_true, Int.toNat_natCast])
          (try simp only [hjc, if_true, Int.toNat_natCast])
          (try simp only [hjn, if_true])
          (try simp only [hjm, if_true])
          (try simp only [hbl, Bool.not_true, Bool.not_false])
          try with_reducible rfl
        intro hHeld
        try simp only [Act.put, List.setIfInBounds_toArray, List.set_cons_zero, List.set_cons_succ]
        refine wpAnyR_take 4 rfl (by kernel_rfl) (by kernel_rfl) (by kernel_rfl) (by kernel_rfl) (fun _ _ _ h => h) (by rfl) (v := ?_) ?_ (by assumption) ?_
        rotate_left
        focus
          intro wS hSw
          (try dsimp only at hSw)
          go_simp
          (try simp only [hwj])
          (try simp only [w2, hjb, if_true, Int.toNat_natCast])
          (try simp only [hjc, if_true, Int.toNat_natCast])
          (try simp only [hjn, if_true])
          (try simp only [hjm, if_true])
          (try simp only [hbl, Bool.not_true, Bool.not_false])
          try with_reducible rfl
        intro hHeld
        try simp only [Act.put, List.setIfInBounds_toArray, List.set_cons_zero, List.set_cons_succ]
        refine wpAnyR_take 5 rfl (by kernel_rfl) (by kernel_rfl) (by kernel_rfl) (by kernel_rfl) (fun _ _ _ h => h) (by rfl) (v := ?_) ?_ (by assumption) ?_
        rotate_left
        focus
          intro wS hSw
          (try dsimp only at hSw)
          go_simp
          (try simp only [hwj])
          (try simp only [w2, hjb, if_true, Int.toNat_natCast])
          (try simp only [hjc, if_true, Int.toNat_natCast])
          (try simp only [hjn, if_true])
          (try simp only [hjm, if_true])
          (try simp only [hbl, Bool.not_true, Bool.not_false])
          try with_reducible rfl
        intro hHeld
        try simp only [Act.put, List.setIfInBounds_toArray, List.set_cons_zero, List.set_cons_succ]
        refine wpAnyR_take 6 rfl (by kernel_rfl) (by kernel_rfl) (by kernel_rfl) (by kernel_rfl) (fun _ _ _ h => h) (by rfl) (v := ?_) ?_ (by assumption) ?_
        rotate_left
        focus
          intro wS hSw
          (try dsimp only at hSw)
          go_simp
          (try simp only [hwj])
          (try simp only [w2, hjb, if_true, Int.toNat_natCast])
          (try simp only [hjc, if_true, Int.toNat_natCast])
          (try simp only [hjn, if_true])
          (try simp only [hjm, if_true])
          (try simp only [hbl, Bool.not_true, Bool.not_false])
          try with_reducible rfl
        intro hHeld
        try simp only [Act.put, List.setIfInBounds_toArray, List.set_cons_zero, List.set_cons_succ]
        refine wpAnyR_take 7 rfl (by kernel_rfl) (by kernel_rfl) (by kernel_rfl) (by kernel_rfl) (fun _ _ _ h => h) (by rfl) (v := ?_) ?_ (by assumption) ?_
        rotate_left
        focus
          intro wS hSw
          (try dsimp only at hSw)
          go_simp
          (try simp only [hwj])
          (try simp only [w2, hjb, if_true, Int.toNat_natCast])
          (try simp only [hjc, if_true, Int.toNat_natCast])
          (try simp only [hjn, if_true])
          (try simp only [hjm, if_true])
          (try simp only [hbl, Bool.not_true, Bool.not_false])
          try with_reducible rfl
        intro hHeld
        try simp only [Act.put, List.setIfInBounds_toArray, List.set_cons_zero, List.set_cons_succ]
        refine wpAnyR_take 8 rfl (by kernel_rfl) (by kernel_rfl) (by kernel_rfl) (by kernel_rfl) (fun _ _ _ h => h) (by rfl) (v := ?_) ?_ (by assumption) ?_
        rotate_left
        focus
          intro wS hSw
          (try dsimp only at hSw)
          go_simp
          (try simp only [hwj])
          (try simp only [w2, hjb, if_true, Int.toNat_natCast])
          (try simp only [hjc, if_true, Int.toNat_natCast])
          (try simp only [hjn, if_true])
          (try simp only [hjm, if_true])
          (try simp only [hbl, Bool.not_true, Bool.not_false])
          try with_reducible rfl
        intro hHeld
        try simp only [Act.put, List.setIfInBounds_toArray, List.set_cons_zero, List.set_cons_succ]
        refine wpAnyR_take 9 rfl (by kernel_rfl) (by kernel_rfl) (by kernel_rfl) (by kernel_rfl) (fun _ _ _ h => h) (by rfl) (v := ?_) ?_ (by assumption) ?_
        rotate_left
        focus
          intro wS hSw
          (try dsimp only at hSw)
          go_simp
          (try simp only [hwj])
          (try simp only [w2, hjb, if_true, Int.toNat_natCast])
          (try simp only [hjc, if_true, Int.toNat_natCast])
          (try simp only [hjn, if_true])
          (try simp only [hjm, if_true])
          (try simp only [hbl, Bool.not_true, Bool.not_false])
          try with_reducible rfl
        intro hHeld
        try simp only [Act.put, List.setIfInBounds_toArray, List.set_cons_zero, List.set_cons_succ]
        refine wpAnyR_take 10 rfl (by kernel_rfl) (by kernel_rfl) (by kernel_rfl) (by kernel_rfl) (fun _ _ _ h => h) (by rfl) (v := ?_) ?_ (by assumption) ?_
        rotate_left
        focus
          intro wS hSw
          (try dsimp only at hSw)
          go_simp
          (try simp only [hwj])
          (try simp only [w2, hjb, if_true, Int.toNat_natCast])
          (try simp only [hjc, if_true, Int.toNat_natCast])
          (try simp only [hjn, if_true])
          (try simp only [hjm, if_true])
          (try simp only [hbl, Bool.not_true, Bool.not_false])
          try with_reducible rfl
        intro hHeld
        try simp only [Act.put, List.setIfInBounds_toArray, List.set_cons_zero, List.set_cons_succ]
        refine wpAnyR_take 11 rfl (by kernel_rfl) (by kernel_rfl) (by kernel_rfl) (by kernel_rfl) (fun _ _ _ h => h) (by rfl) (v := ?_) ?_ (by assumption) ?_
        rotate_left
        focus
          intro wS hSw
          (try dsimp only at hSw)
          go_simp
          (try simp only [hwj])
          (try simp only [w2, hjb, if_true, Int.toNat_natCast])
          (try simp only [hjc, if_true, Int.toNat_natCast])
          (try simp only [hjn, if_true])
          (try simp only [hjm, if_true])
          (try simp only [hbl, Bool.not_true, Bool.not_false])
          try with_reducible rfl
        intro hHeld
        try simp only [Act.put, List.setIfInBounds_toArray, List.set_cons_zero, List.set_cons_succ]
        refine wpAnyR_done (by kernel_rfl) ?_
        refine NoPanic.normal ?_
        go_wp2_with fail
      · go_ret
        exact ⟨⟨false, rfl, ⟨(fun h => by cases h), fun h => by
          have := h j s x t y HXY.out.1 HXY.out.2
          rw [HLT.out] at this; cases this⟩⟩, HBD.out⟩
      · go_roundw
        case rel => exact ⟨i2 + 1, by omega, .inl (by omega), by go_num, Lib.hid (fun j' hj' s' x' t' y' hx' hy' => by
          rcases Nat.lt_or_ge (j' + 1) i2 with h | h
          · exact HOK.out j' h s' x' t' y' hx' hy'
          · have hjj : j' = j := by have := HI2.out; omega
            subst hjj
            have e1 := HXY.out.1
            have e2 := HXY.out.2
            rw [hx'] at e1
            rw [← HI2.out] at *
            rw [hy'] at e2
            injection e1 with e1
            injection e1 with e1 _
            injection e2 with e2
            injection e2 with e2 _
            rw [e1, e2]
            exact HLT.out), HBD⟩
        case measure => simp [intOf]; omega
    · have hli : ¬ (i : Int) < LL := by omega
      have HIL : Hid (LL ≤ i) := Lib.hid (by omega)
      clear hlt hi
      go_wp2_with fail
      go_ret
      exact ⟨⟨true, rfl, ⟨fun _ j s x t y hx hy => HOK.out j (by have := Ens.get_lt l _ _ hy; have h1 := HLL.out; have h2 := HIL.out; omega) s x t y hx hy, fun _ => rfl⟩⟩, HBE.out⟩
end

section
open Go.RowKit Go.Sort
set_option linter.unusedVariables false
set_option maxRecDepth 100000
structure Part where
  a : Nat
  x : Ob
  c0 : Value
  c1 : Value
  c2 : Value
  c3 : Value
  c4 : Value
def Part.val (p : Part) : Value := .agg #[p.c0, p.c1, p.c2, p.c3, p.c4]
mutual
def WkO (w : World) (S : Nat → Prop) (a : Nat) : Ob → Value → Value → List Part → Prop
  | .mk k n b l d, c3, c4, ys =>
    if k = 6 then (∃ A m c g o, c3 = .slice A m c ∧ m = l.len ∧ (l.len ≤ c ∧ c ≤ 9223372036854775807) ∧ (0 < l.len → A = some ⟨g, o, none⟩ ∧ S g) ∧ WkL w S (a + 1) l g o ys)
    else if k = 7 ∨ k = 8 then (∃ A m c g o, c4 = .slice A m c ∧ m = d.len ∧ (d.len ≤ c ∧ c ≤ 9223372036854775807) ∧ (0 < d.len → A = some ⟨g, o, none⟩ ∧ S g) ∧ WkE w S (a + 1) d g o ys)
    else ys = []
def WkL (w : World) (S : Nat → Prop) (a : Nat) : Obs → Nat → Nat → List Part → Prop
  | .nil, g, o, ys => ys = []
  | .cons x xs, g, o, ys => ∃ c0 c1 c2 c3 c4 y1 y2, (w.cell? ⟨g, o, none⟩ = some c0 ∧ w.cell? ⟨g, o + 1, none⟩ = some c1 ∧ w.cell? ⟨g, o + 2, none⟩ = some c2 ∧ w.cell? ⟨g, o + 3, none⟩ = some c3 ∧ w.cell? ⟨g, o + 4, none⟩ = some c4) ∧ ObR w S x c0 c1 c2 c3 c4 ∧ (okO x ∧ a + htO x ≤ 100000000) ∧ WkO w S a x c3 c4 y1 ∧ WkL w S a xs g (o + 5) y2 ∧ ys = ⟨a, x, c0, c1, c2, c3, c4⟩ :: (y1 ++ y2)
def WkE (w : World) (S : Nat → Prop) (a : Nat) : Ens → Nat → Nat → List Part → Prop
  | .nil, g, o, ys => ys = []
  | .cons s x xs, g, o, ys => ∃ c0 c1 c2 c3 c4 y1 y2, (w.cell? ⟨g, o, none⟩ = some (.string s) ∧ w.cell? ⟨g, o + 1, none⟩ = some c0 ∧ w.cell? ⟨g, o + 2, none⟩ = some c1 ∧ w.cell? ⟨g, o + 3, none⟩ = some c2 ∧ w.cell? ⟨g, o + 4, none⟩ = some c3 ∧ w.cell? ⟨g, o + 5, none⟩ = some c4) ∧ ObR w S x c0 c1 c2 c3 c4 ∧ (okO x ∧ a + htO x ≤ 100000000) ∧ WkO w S a x c3 c4 y1 ∧ WkE w S a xs g (o + 6) y2 ∧ ys = ⟨a, x, c0, c1, c2, c3, c4⟩ :: (y1 ++ y2)
end
mutual
theorem WkO.ex {w : World} {S : Nat → Prop} : ∀ (x : Ob) (a : Nat) (c0 c1 c2 c3 c4 : Value), ObR w S x c0 c1 c2 c3 c4 → okO x → a + htO x ≤ 100000000 → ∃ ys, WkO w S a x c3 c4 ys
  | .mk k n b l d, a, c0, c1, c2, c3, c4, h, hok, hht => by
    unfold okO at hok
    rw [htO] at hht
    unfold ObR at h
    obtain ⟨-, -, -, -, -, ⟨A3, c3', rfl, hc3, h3⟩, ⟨A4, c4', rfl, hc4, h4⟩⟩ := h
    unfold WkO
    by_cases h6 : k = 6
    · simp only [if_pos h6]
      rcases Nat.eq_zero_or_pos l.len with h0 | h0
      · have hn : l = .nil := by cases l with | nil => rfl | cons x xs => rw [Obs.len] at h0; omega
        subst hn
        exact ⟨[], A3, _, c3', 0, 0, rfl, rfl, hc3, fun h => absurd h (by omega), by unfold WkL; rfl⟩
      · obtain ⟨g, o, rfl, hg, hr⟩ := h3 h0
        obtain ⟨ys, hy⟩ := WkL.ex l (a + 1) g o hr hok.2.2.2.1 (by omega)
        exact ⟨ys, _, _, c3', g, o, rfl, rfl, hc3, fun _ => ⟨rfl, hg⟩, hy⟩
    · simp only [if_neg h6]
      by_cases h7 : k = 7 ∨ k = 8
      · simp only [if_pos h7]
        rcases Nat.eq_zero_or_pos d.len with h0 | h0
        · have hn : d = .nil := by cases d with | nil => rfl | cons s x xs => rw [Ens.len] at h0; omega
          subst hn
          exact ⟨[], A4, _, c4', 0, 0, rfl, rfl, hc4, fun h => absurd h (by omega), by unfold WkE; rfl⟩
        · obtain ⟨g, o, rfl, hg, hr⟩ := h4 h0
          obtain ⟨ys, hy⟩ := WkE.ex d (a + 1) g o hr hok.2.2.2.2 (by omega)
          exact ⟨ys, _, _, c4', g, o, rfl, rfl, hc4, fun _ => ⟨rfl, hg⟩, hy⟩
      · simp only [if_neg h7]
        exact ⟨[], rfl⟩
theorem WkL.ex {w : World} {S : Nat → Prop} : ∀ (l : Obs) (a g o : Nat), ObsR w S l g o → okL l → a + htL l ≤ 100000000 → ∃ ys, WkL w S a l g o ys
  | .nil, a, g, o, h, _, _ => ⟨[], by unfold WkL; rfl⟩
  | .cons x xs, a, g, o, h, hok, hht => by
    unfold okL at hok
    rw [htL] at hht
    unfold ObsR at h
    obtain ⟨⟨c0, c1, c2, c3, c4, k0, k1, k2, k3, k4, hx⟩, hxs⟩ := h
    obtain ⟨y1, h1⟩ := WkO.ex x a c0 c1 c2 c3 c4 hx hok.1 (by omega)
    obtain ⟨y2, h2⟩ := WkL.ex xs a g (o + 5) hxs hok.2 (by omega)
    refine ⟨⟨a, x, c0, c1, c2, c3, c4⟩ :: (y1 ++ y2), ?_⟩
    unfold WkL
    exact ⟨c0, c1, c2, c3, c4, y1, y2, ⟨k0, k1, k2, k3, k4⟩, hx, ⟨hok.1, by omega⟩, h1, h2, rfl⟩
theorem WkE.ex {w : World} {S : Nat → Prop} : ∀ (d : Ens) (a g o : Nat), EnsR w S d g o → okE d → a + htE d ≤ 100000000 → ∃ ys, WkE w S a d g o ys
  | .nil, a, g, o, h, _, _ => ⟨[], by unfold WkE; rfl⟩
  | .cons s x xs, a, g, o, h, hok, hht => by
    unfold okE at hok
    rw [htE] at hht
    unfold EnsR at h
    obtain ⟨⟨c0, c1, c2, c3, c4, ks, k0, k1, k2, k3, k4, hx⟩, hxs⟩ := h
    obtain ⟨y1, h1⟩ := WkO.ex x a c0 c1 c2 c3 c4 hx hok.1 (by omega)
    obtain ⟨y2, h2⟩ := WkE.ex xs a g (o + 6) hxs hok.2 (by omega)
    refine ⟨⟨a, x, c0, c1, c2, c3, c4⟩ :: (y1 ++ y2), ?_⟩
    unfold WkE
    exact ⟨c0, c1, c2, c3, c4, y1, y2, ⟨ks, k0, k1, k2, k3, k4⟩, hx, ⟨hok.1, by omega⟩, h1, h2, rfl⟩
end
mutual
theorem WkO.obs {w : World} {S : Nat → Prop} : ∀ (x : Ob) (a : Nat) (c3 c4 : Value) (ys : List Part), WkO w S a x c3 c4 ys → ∀ p ∈ ys, ObR w S p.x p.c0 p.c1 p.c2 p.c3 p.c4
  | .mk k n b l d, a, c3, c4, ys, h => by
    unfold WkO at h
    split at h
    · obtain ⟨A, m, c, g, o, _, _, _, _, h⟩ := h
      exact WkL.obs l (a + 1) g o ys h
    · split at h
      · obtain ⟨A, m, c, g, o, _, _, _, _, h⟩ := h
        exact WkE.obs d (a + 1) g o ys h
      · subst h
        intro p hp
        cases hp
theorem WkL.obs {w : World} {S : Nat → Prop} : ∀ (l : Obs) (a g o : Nat) (ys : List Part), WkL w S a l g o ys → ∀ p ∈ ys, ObR w S p.x p.c0 p.c1 p.c2 p.c3 p.c4
  | .nil, a, g, o, ys, h => by
    unfold WkL at h
    subst h
    intro p hp
    cases hp
  | .cons x xs, a, g, o, ys, h => by
    unfold WkL at h
    obtain ⟨c0, c1, c2, c3, c4, y1, y2, _, hx, _, h1, h2, rfl⟩ := h
    intro p hp
    rcases List.mem_cons.1 hp with rfl | hp
    · exact hx
    · rcases List.mem_append.1 hp with hp | hp
      · exact WkO.obs x a c3 c4 y1 h1 p hp
      · exact WkL.obs xs a g (o + 5) y2 h2 p hp
theorem WkE.obs {w : World} {S : Nat → Prop} : ∀ (d : Ens) (a g o : Nat) (ys : List Part), WkE w S a d g o ys → ∀ p ∈ ys, ObR w S p.x p.c0 p.c1 p.c2 p.c3 p.c4
  | .nil, a, g, o, ys, h => by
    unfold WkE at h
    subst h
    intro p hp
    cases hp
  | .cons s x xs, a, g, o, ys, h => by
    unfold WkE at h
    obtain ⟨c0, c1, c2, c3, c4, y1, y2, _, hx, _, h1, h2, rfl⟩ := h
    intro p hp
    rcases List.mem_cons.1 hp with rfl | hp
    · exact hx
    · rcases List.mem_append.1 hp with hp | hp
      · exact WkO.obs x a c3 c4 y1 h1 p hp
      · exact WkE.obs xs a g (o + 6) y2 h2 p hp
end
/-- How deep an object is without what is in it. -/
def layN (x : Ob) : Nat := if x.kind = 6 ∨ x.kind = 7 ∨ x.kind = 8 then 1 else 0
def longB (k : Int) (b : List Int) : Bool := if k = 4 then decide (b.length ≤ 32767) else if k = 5 then nameZ b else if k = 8 then decide (b.length ≤ 16777216) else true
def FillP (k n : Int) (b l d : Nat) : Prop := (n = 0 ∨ k = 1 ∨ k = 2 ∨ k = 3 ∨ k = 9) ∧ (b = 0 ∨ k = 4 ∨ k = 5 ∨ k = 8) ∧ (l = 0 ∨ k = 6) ∧ (d = 0 ∨ k = 7 ∨ k = 8)
/-- What may be, of one object without what is in it. -/
def SoundP : Ob → Prop
  | .mk k n b l d => ((0 ≤ k ∧ k ≤ 9) ∧ FillP k n b.length l.len d.len) ∧ (numB k n = true ∧ longB k b = true) ∧ (¬ strmL l ∧ ¬ wrongE d ∧ riseP d)
def PartOk (p : Part) : Prop := p.a + layN p.x ≤ 28 ∧ SoundP p.x
theorem strm_cons (x : Ob) (xs : Obs) : strmL (.cons x xs) ↔ x.kind = 8 ∨ strmL xs := by
  constructor
  · rintro ⟨i, y, hy, hk⟩
    cases i with
    | zero => simp [Obs.get?] at hy; subst hy; exact .inl hk
    | succ i => exact .inr ⟨i, y, by simpa [Obs.get?] using hy, hk⟩
  · rintro (h | ⟨i, y, hy, hk⟩)
    · exact ⟨0, x, by simp [Obs.get?], h⟩
    · exact ⟨i + 1, y, by simpa [Obs.get?] using hy, hk⟩
theorem wrong_cons (s : ByteArray) (x : Ob) (xs : Ens) : wrongE (.cons s x xs) ↔ wrongB s x.kind = true ∨ wrongE xs := by
  constructor
  · rintro ⟨i, t, y, hy, hk⟩
    cases i with
    | zero => simp [Ens.get?] at hy; obtain ⟨rfl, rfl⟩ := hy; exact .inl hk
    | succ i => exact .inr ⟨i, t, y, by simpa [Ens.get?] using hy, hk⟩
  · rintro (h | ⟨i, t, y, hy, hk⟩)
    · exact ⟨0, s, x, by simp [Ens.get?], h⟩
    · exact ⟨i + 1, t, y, by simpa [Ens.get?] using hy, hk⟩
theorem rise_nil : riseP .nil := fun j s x t y h => by simp [Ens.get?] at h
theorem rise_one (s : ByteArray) (x : Ob) : riseP (.cons s x .nil) := fun j s' x' t y h h2 => by cases j <;> simp [Ens.get?] at h2
theorem rise_cons (s t : ByteArray) (x y : Ob) (xs : Ens) : riseP (.cons s x (.cons t y xs)) ↔ ltS s t = true ∧ riseP (.cons t y xs) := by
  constructor
  · intro h
    refine ⟨h 0 s x t y (by simp [Ens.get?]) (by simp [Ens.get?]), fun j s' x' t' y' h1 h2 => h (j + 1) s' x' t' y' (by simpa [Ens.get?] using h1) (by simpa [Ens.get?] using h2)⟩
  · rintro ⟨h1, h2⟩ j s' x' t' y' h3 h4
    cases j with
    | zero =>
      simp [Ens.get?] at h3 h4
      obtain ⟨rfl, rfl⟩ := h3
      obtain ⟨rfl, rfl⟩ := h4
      exact h1
    | succ j => exact h2 j s' x' t' y' (by simpa [Ens.get?] using h3) (by simpa [Ens.get?] using h4)
theorem null_iff (k : Int) : nullB k = false ↔ (1 ≤ k ∧ k ≤ 9) := by
  unfold nullB usesZ
  rw [decide_eq_false_iff_not]
  constructor
  · intro h
    by_cases h1 : 1 ≤ k ∧ k ≤ 9
    · exact h1
    · exact absurd (by rw [if_neg (by omega), if_neg (by omega), if_neg (by omega), if_neg (by omega), if_neg (by omega)]) h
  · intro h
    repeat' split
    all_goals omega
theorem wrong_no (s : ByteArray) (k : Int) : ¬ wrongB s k = true ↔ nameS s = true ∧ (1 ≤ k ∧ k ≤ 9) ∧ k ≠ 8 := by
  unfold wrongB
  rw [Bool.not_eq_true, Bool.or_eq_false_iff, Bool.or_eq_false_iff, null_iff, decide_eq_false_iff_not]
  cases nameS s <;> simp
theorem strm_nil : ¬ strmL .nil := by rintro ⟨i, x, hx, _⟩; simp [Obs.get?] at hx
theorem wrong_nil : ¬ wrongE .nil := by rintro ⟨i, s, x, hx, _⟩; simp [Ens.get?] at hx
theorem badF_no (k : Int) (lb ll ld : Nat) : badF k lb ll ld = false ↔ (lb = 0 ∨ k = 4 ∨ k = 5 ∨ k = 8) ∧ (ll = 0 ∨ k = 6) ∧ (ld = 0 ∨ k = 7 ∨ k = 8) := by
  unfold badF
  rw [decide_eq_false_iff_not]
  omega
def restO (k n : Int) (b : List Int) (l : Obs) (d : Ens) (dp : Int) : Bool :=
  if k = 1 then decide (n = 0 ∨ n = 1) else if k = 2 then decide (-2147483647 ≤ n ∧ n ≤ 2147483647) else if k = 3 then inZ n else if k = 9 then decide (1 ≤ n ∧ n ≤ 8388607) else if n ≠ 0 then false else if k = 0 then true else if k = 4 then decide (b.length ≤ 32767) else if k = 5 then nameZ b else if k = 6 then (mayL l dp && decide (1 ≤ dp)) else if k = 7 ∨ k = 8 then (if dp < 1 ∨ 16777216 < b.length then false else mayE d none dp) else false
theorem mayO_rest (k n : Int) (b : List Int) (l : Obs) (d : Ens) (dp : Int) : mayO (.mk k n b l d) dp = true ↔ badF k b.length l.len d.len = false ∧ restO k n b l d dp = true := by
  rw [mayO]
  unfold restO
  cases badF k b.length l.len d.len <;> simp
mutual
theorem WkO.may {w : World} {S : Nat → Prop} : ∀ (x : Ob) (a : Nat) (c3 c4 : Value) (ys : List Part), WkO w S a x c3 c4 ys → a ≤ 28 → (mayO x (28 - (a : Int)) = true ↔ (a + layN x ≤ 28 ∧ SoundP x) ∧ ∀ p ∈ ys, PartOk p)
  | .mk k n b l d, a, c3, c4, ys, h, ha28 => by
    unfold WkO at h
    rw [mayO_rest]
    have hsp : ((a + layN (.mk k n b l d) ≤ 28 ∧ SoundP (.mk k n b l d)) ∧ ∀ p ∈ ys, PartOk p) ↔ badF k b.length l.len d.len = false ∧ ((a + layN (.mk k n b l d) ≤ 28 ∧ ((0 ≤ k ∧ k ≤ 9) ∧ (n = 0 ∨ k = 1 ∨ k = 2 ∨ k = 3 ∨ k = 9)) ∧ (numB k n = true ∧ longB k b = true) ∧ (¬ strmL l ∧ ¬ wrongE d ∧ riseP d)) ∧ ∀ p ∈ ys, PartOk p) := by
      unfold SoundP FillP
      rw [badF_no]
      constructor
      · rintro ⟨⟨q1, ⟨q2, q3, q4⟩, q5, q6⟩, q7⟩
        exact ⟨q4, ⟨q1, ⟨q2, q3⟩, q5, q6⟩, q7⟩
      · rintro ⟨q4, ⟨q1, ⟨q2, q3⟩, q5, q6⟩, q7⟩
        exact ⟨⟨q1, ⟨q2, q3, q4⟩, q5, q6⟩, q7⟩
    rw [hsp]
    refine and_congr_right fun hbad => ?_
    clear hsp
    rw [badF_no] at hbad
    obtain ⟨hb, hl, hd⟩ := hbad
    have hkind : (Ob.mk k n b l d).kind = k := rfl
    unfold layN
    rw [hkind]
    by_cases h6 : k = 6
    · subst h6
      rw [if_pos rfl] at h
      obtain ⟨A, m, c, g, o, _, _, _, _, h⟩ := h
      have ih := WkL.may l a g o ys h
      have hdn : d = .nil := by cases d with | nil => rfl | cons s x xs => rw [Ens.len] at hd; omega
      subst hdn
      have hbn : b = [] := List.length_eq_zero_iff.1 (by omega)
      subst hbn
      unfold restO numB longB
      by_cases ha : 1 ≤ (28 - (a : Int))
      · have ih := ih ha
        have ha2 : a + 1 ≤ 28 := by omega
        simp [wrong_nil, rise_nil, ih, ha, ha2, and_assoc]
      · have ha2 : ¬ a + 1 ≤ 28 := by omega
        simp [ha, ha2]
    · rw [if_neg h6] at h
      have hln : l = .nil := by cases l with | nil => rfl | cons x xs => rw [Obs.len] at hl; omega
      subst hln
      by_cases h78 : k = 7 ∨ k = 8
      · rw [if_pos h78] at h
        obtain ⟨A, m, c, g, o, _, _, _, _, h⟩ := h
        have ih := WkE.may d none a g o ys h
        by_cases ha : 1 ≤ (28 - (a : Int))
        · have ih := ih ha
          have ha2 : a + 1 ≤ 28 := by omega
          have ha3 : ¬ (28 - (a : Int)) < 1 := by omega
          rcases h78 with rfl | rfl
          · have hbn : b = [] := List.length_eq_zero_iff.1 (by omega)
            subst hbn
            unfold restO numB longB
            simp [strm_nil, ih, ha2, ha3, and_assoc]
          · unfold restO numB longB
            by_cases hb2 : 16777216 < b.length
            · have hb3 : ¬ b.length ≤ 16777216 := by omega
              simp [hb2, hb3]
            · have hb3 : b.length ≤ 16777216 := by omega
              simp [strm_nil, ih, ha2, ha3, hb2, hb3, and_assoc]
        · have ha2 : ¬ a + 1 ≤ 28 := by omega
          have ha3 : (28 - (a : Int)) < 1 := by omega
          rcases h78 with rfl | rfl
          all_goals
            unfold restO
            simp [ha2, ha3]
      · rw [if_neg h78] at h
        subst h
        have hdn : d = .nil := by cases d with | nil => rfl | cons s x xs => rw [Ens.len] at hd; omega
        subst hdn
        have hlay : ¬ (k = 6 ∨ k = 7 ∨ k = 8) := by omega
        rw [if_neg hlay]
        have hT : (¬ strmL .nil ∧ ¬ wrongE .nil ∧ riseP .nil) := ⟨strm_nil, wrong_nil, rise_nil⟩
        have hys : ∀ p ∈ ([] : List Part), PartOk p := fun p hp => by cases hp
        have key : restO k n b .nil .nil (28 - (a : Int)) = true ↔ (((0 ≤ k ∧ k ≤ 9) ∧ (n = 0 ∨ k = 1 ∨ k = 2 ∨ k = 3 ∨ k = 9)) ∧ (numB k n = true ∧ longB k b = true)) := by
          unfold restO numB longB inZ
          by_cases hk : k = 0 ∨ k = 1 ∨ k = 2 ∨ k = 3 ∨ k = 4 ∨ k = 5 ∨ k = 9
          · rcases hk with rfl | rfl | rfl | rfl | rfl | rfl | rfl
            all_goals simp
            all_goals omega
          · have hk2 : ¬ (0 ≤ k ∧ k ≤ 9) := by omega
            have q0 : ¬ k = 0 := by omega
            have q1 : ¬ k = 1 := by omega
            have q2 : ¬ k = 2 := by omega
            have q3 : ¬ k = 3 := by omega
            have q4 : ¬ k = 4 := by omega
            have q5 : ¬ k = 5 := by omega
            have q9 : ¬ k = 9 := by omega
            simp [hk2, q0, q1, q2, q3, q4, q5, q9, h6, h78]
        rw [key]
        constructor
        · rintro ⟨e1, e2⟩
          exact ⟨⟨by omega, e1, e2, hT⟩, hys⟩
        · rintro ⟨⟨_, e1, e2, _⟩, _⟩
          exact ⟨e1, e2⟩
theorem WkL.may {w : World} {S : Nat → Prop} : ∀ (l : Obs) (a g o : Nat) (ys : List Part), WkL w S (a + 1) l g o ys → 1 ≤ (28 - (a : Int)) → (mayL l (28 - (a : Int)) = true ↔ ¬ strmL l ∧ ∀ p ∈ ys, PartOk p)
  | .nil, a, g, o, ys, h, hd => by
    unfold WkL at h
    subst h
    have h1 : ¬ strmL .nil := by rintro ⟨i, x, hx, _⟩; simp [Obs.get?] at hx
    unfold mayL
    simp [h1]
  | .cons x xs, a, g, o, ys, h, hd => by
    unfold WkL at h
    obtain ⟨c0, c1, c2, c3, c4, y1, y2, _, hx, _, h1, h2, rfl⟩ := h
    have ih1 := WkO.may x (a + 1) c3 c4 y1 h1 (by omega)
    have ih2 := WkL.may xs a g (o + 5) y2 h2 hd
    have e : (28 : Int) - ((a + 1 : Nat) : Int) = 28 - (a : Int) - 1 := by omega
    rw [e] at ih1
    unfold mayL
    rw [strm_cons]
    by_cases hk : x.kind = 8
    · rw [if_pos (.inl hk)]
      simp [hk]
    · rw [if_neg (by omega)]
      by_cases hm : mayO x (28 - (a : Int) - 1) = true
      · rw [if_pos hm, ih2]
        have h3 := ih1.1 hm
        simp only [List.mem_cons, forall_eq_or_imp, List.mem_append, hk, false_or]
        constructor
        · rintro ⟨q1, q2⟩
          exact ⟨q1, h3.1, fun p hp => hp.elim (h3.2 p) (q2 p)⟩
        · rintro ⟨q1, _, q2⟩
          exact ⟨q1, fun p hp => q2 p (.inr hp)⟩
      · rw [if_neg hm]
        simp only [List.mem_cons, forall_eq_or_imp, List.mem_append, Bool.false_eq_true, false_iff]
        rintro ⟨_, q1, q2⟩
        exact hm (ih1.2 ⟨q1, fun p hp => q2 p (.inl hp)⟩)
theorem WkE.may {w : World} {S : Nat → Prop} : ∀ (d : Ens) (pv : Option ByteArray) (a g o : Nat) (ys : List Part), WkE w S (a + 1) d g o ys → 1 ≤ (28 - (a : Int)) → (mayE d pv (28 - (a : Int)) = true ↔ (∀ s x xs p, d = .cons s x xs → pv = some p → ltS p s = true) ∧ (¬ wrongE d ∧ riseP d) ∧ ∀ p ∈ ys, PartOk p)
  | .nil, pv, a, g, o, ys, h, hd => by
    unfold WkE at h
    subst h
    have h1 : ¬ wrongE .nil := by rintro ⟨i, s, x, hx, _⟩; simp [Ens.get?] at hx
    unfold mayE
    simp [h1, rise_nil]
  | .cons s x xs, pv, a, g, o, ys, h, hd => by
    unfold WkE at h
    obtain ⟨c0, c1, c2, c3, c4, y1, y2, _, hx, _, h1, h2, rfl⟩ := h
    have ih1 := WkO.may x (a + 1) c3 c4 y1 h1 (by omega)
    have ih2 := WkE.may xs (some s) a g (o + 6) y2 h2 hd
    have e : (28 : Int) - ((a + 1 : Nat) : Int) = 28 - (a : Int) - 1 := by omega
    rw [e] at ih1
    unfold mayE
    rw [wrong_cons]
    have hr : riseP (.cons s x xs) ↔ (∀ t y ys, xs = .cons t y ys → ltS s t = true) ∧ riseP xs := by
      cases xs with
      | nil => simp [rise_one, rise_nil]
      | cons t y ys =>
        rw [rise_cons]
        constructor
        · rintro ⟨q1, q2⟩
          refine ⟨fun t' y' ys' e => ?_, q2⟩
          injection e with e1 _ _
          rw [← e1]; exact q1
        · rintro ⟨q1, q2⟩
          exact ⟨q1 t y ys rfl, q2⟩
    have hp : (∀ p, pv = some p → leS s p = false) ↔ ∀ p, pv = some p → ltS p s = true := by
      constructor
      · intro h p hp; exact leS_no (by rw [h p hp]; simp)
      · intro h p hp
        have := h p hp
        rw [Bool.eq_false_iff]
        intro h2
        rcases leS_lt.1 h2 with h3 | h3
        · have := ltS_trans this h3
          rw [ltS_irrefl] at this; cases this
        · rw [h3, ltS_irrefl] at this; cases this
    simp only [List.mem_cons, forall_eq_or_imp, List.mem_append, hp, hr, not_or, wrong_no]
    split
    · rename_i hc
      obtain ⟨n1, n2, n3, n4, n5⟩ := hc
      rw [ih2]
      have h3 := ih1.1 n5
      have hk := may_kind n5
      constructor
      · rintro ⟨q1, ⟨q2, q3⟩, q4⟩
        refine ⟨fun s' x' xs' p e hpv => ?_, ⟨⟨⟨n1, by omega, n3⟩, q2⟩, fun t y ys' e => q1 t y ys' s e rfl, q3⟩, h3.1, fun p hp => hp.elim (h3.2 p) (q4 p)⟩
        injection e with e1 _ _
        rw [← e1]; exact n2 p hpv
      · rintro ⟨_, ⟨⟨_, q2⟩, q5, q3⟩, _, q4⟩
        refine ⟨fun t y ys' p e hpv => ?_, ⟨q2, q3⟩, fun p hp => q4 p (.inr hp)⟩
        injection hpv with hpv
        rw [← hpv]; exact q5 t y ys' e
    · rename_i hc
      simp only [Bool.false_eq_true, false_iff]
      rintro ⟨q1, ⟨⟨⟨n1, n3, n4⟩, _⟩, _, _⟩, q5, q6⟩
      exact hc ⟨n1, fun p hpv => q1 s x xs p rfl hpv, n4, by omega, ih1.2 ⟨q5, fun p hp => q6 p (.inl hp)⟩⟩
end
end

section
open Go.RowKit Go.Sort
set_option linter.unusedVariables false
set_option maxRecDepth 100000
theorem Tells.yes {r : Ending} {p : Prop} (h : Tells r p) (B : Bool) (hB : B = true ↔ p) : r = .returned (.bool B) := by
  obtain ⟨B', e, h'⟩ := h
  have : B' = B := by rw [Bool.eq_iff_iff, h', hB]
  rw [e, this]
theorem strZ_back {s : ByteArray} {zs : List Int} (hs : s.data.toList = zs.map fun n => UInt8.ofNat n.toNat) (hz : ∀ z ∈ zs, 0 ≤ z ∧ z < 256) : strZ s = zs := by
  unfold strZ
  rw [hs, List.map_map]
  conv => rhs; rw [← List.map_id zs]
  apply List.map_congr_left
  intro z h
  have := hz z h
  simp only [Function.comp, id]
  rw [UInt8.toNat_ofNat']
  omega
set_option maxHeartbeats 2000000 in
theorem longC {S : Nat → Prop} (k : Int) (c1 c3 c4 : Value) (b : List Int) (A : Option Addr) (m c : Nat) (w : World) (hb : BytS w S A m c b) (hS : ∀ g, S g → g < w.heap.size) :
    Calls Tryz.prog 132 #[.agg #[.int .i64 k, c1, .slice A m c, c3, c4]] w fun r w' => r = .returned (.bool (longB k b)) ∧ Below w.heap.size w w' := by
  have hbel := (Below.refl w.heap.size w).alloc (Nat.le_refl _) (.cells #[.int .i64 k, c1, .slice A m c, c3, c4] 30)
  have HB := Lib.hid hbel
  have hb1 : BytS (w.alloc (.cells #[.int .i64 k, c1, .slice A m c, c3, c4] 30)) S A m c b := ⟨hb.1, hb.2.1, hb.2.2.1, fun h0 => by
    obtain ⟨g, o, e, hg, hc⟩ := hb.2.2.2 h0
    exact ⟨g, o, e, hg, fun i hi => (World.cell?_of_block (a := ⟨g, o + i, none⟩) (hbel.block g (hS g hg))).trans (hc i hi)⟩⟩
  obtain ⟨s, hs, hcv⟩ := conv_at hb1
  have hnm : nameS s = nameZ b := by unfold nameS; rw [strZ_back hs hb.2.2.1]
  have hml : b.length = m := hb.1
  obtain ⟨W1, hW1⟩ : ∃ W1, w.alloc (.cells #[.int .i64 k, c1, .slice A m c, c3, c4] 30) = W1 := ⟨_, rfl⟩
  have hn1 : W1.heap[w.heap.size]? = some (.cells #[.int .i64 k, c1, .slice A m c, c3, c4] 30 (0, 0)) := by rw [← hW1]; exact heap_alloc_new w _
  rw [hW1] at hcv HB
  have HW1 := Lib.hid hW1
  obtain ⟨q0, q1, q2, q3, q4, q5⟩ := row5_cells hn1
  clear hbel hb1 hW1 hn1
  by_cases h : k = 4 ∨ k = 5 ∨ k = 8
  · rcases h with rfl | rfl | rfl
    · unfold longB
      rw [if_pos rfl, hml]
      have HNM := Lib.hid hnm
      clear hnm hs hb hml
      go_enter Tryz.func132, Tryz.ntmps132
      go_upto_region 1 with fail
      rw [HW1.out]
      go_wp2
      go_ret
      exact ⟨by simp; omega, HB.out⟩
    · unfold longB
      rw [if_neg (by decide), if_pos rfl, ← hnm]
      clear hnm hs hb hml
      go_enter Tryz.func132, Tryz.ntmps132
      go_upto_region 1 with fail
      rw [HW1.out]
      go_wp2_with (go_at_call 166; refine (namedC _ _).mono ?_; (rintro e w' ⟨rfl, rfl⟩))
      go_ret
      exact ⟨rfl, HB.out⟩
    · unfold longB
      rw [if_neg (by decide), if_neg (by decide), if_pos rfl, hml]
      clear hnm hs hb hml
      go_enter Tryz.func132, Tryz.ntmps132
      go_upto_region 1 with fail
      rw [HW1.out]
      go_wp2
      go_ret
      exact ⟨by simp; omega, HB.out⟩
  · have e : longB k b = true := by unfold longB; rw [if_neg (by omega), if_neg (by omega), if_neg (by omega)]
    rw [e]
    have h4 : (k == 4) = false := beq_eq_false_iff_ne.2 (by omega)
    have h5 : (k == 5) = false := beq_eq_false_iff_ne.2 (by omega)
    have h8 : (k == 8) = false := beq_eq_false_iff_ne.2 (by omega)
    clear h e hnm hs hb hml
    go_enter Tryz.func132, Tryz.ntmps132
    go_upto_region 1 with fail
    rw [HW1.out]
    go_wp2
    go_ret
    exact ⟨rfl, HB.out⟩
set_option maxHeartbeats 4000000 in
theorem holdingC {S : Nat → Prop} (k n : Int) (A2 A3 A4 : Option Addr) (m2 c2 c3 c4 : Nat) (l : Obs) (d : Ens) (w : World) (hlc : l.len ≤ c3 ∧ c3 ≤ 9223372036854775807) (hl : 0 < l.len → ∃ g o, A3 = some ⟨g, o, none⟩ ∧ S g ∧ ObsR w S l g o) (hd : EnsV w S d A4 c4) (hS : ∀ g, S g → g < w.heap.size) :
    Calls Tryz.prog 133 #[.agg #[.int .i64 k, .int .i64 n, .slice A2 m2 c2, .slice A3 l.len c3, .slice A4 d.len c4]] w fun r w' => Tells r (¬ strmL l ∧ ¬ wrongE d ∧ riseP d) ∧ Below w.heap.size w w' := by
  obtain ⟨B1, hB1⟩ : ∃ B : Bool, B = true ↔ strmL l := by classical exact ⟨decide (strmL l), by rw [decide_eq_true_eq]⟩
  obtain ⟨B2, hB2⟩ : ∃ B : Bool, B = true ↔ wrongE d := by classical exact ⟨decide (wrongE d), by rw [decide_eq_true_eq]⟩
  obtain ⟨B3, hB3⟩ : ∃ B : Bool, B = true ↔ riseP d := by classical exact ⟨decide (riseP d), by rw [decide_eq_true_eq]⟩
  have hres : (!B1 && (!B2 && B3)) = true ↔ (¬ strmL l ∧ ¬ wrongE d ∧ riseP d) := by rw [← hB1, ← hB2, ← hB3]; cases B1 <;> cases B2 <;> cases B3 <;> simp
  have HR := Lib.hid hres
  have hbel := (Below.refl w.heap.size w).alloc (Nat.le_refl _) (.cells #[.int .i64 k, .int .i64 n, .slice A2 m2 c2, .slice A3 l.len c3, .slice A4 d.len c4] 30)
  have hn1 := heap_alloc_new w (.cells #[.int .i64 k, .int .i64 n, .slice A2 m2 c2, .slice A3 l.len c3, .slice A4 d.len c4] 30)
  have HO : Hid (∀ W, Below w.heap.size w W → 0 < l.len → ∃ g o, A3 = some ⟨g, o, none⟩ ∧ S g ∧ ObsR W S l g o) := Lib.hid (fun W hW h0 => by
    obtain ⟨g, o, e, hg, hr⟩ := hl h0
    exact ⟨g, o, e, hg, ObsR.keep (fun b hb => hW.block b (hS b hb)) (fun _ h => h) l g o hg hg hr⟩)
  have HV : Hid (∀ W, Below w.heap.size w W → EnsV W S d A4 c4) := Lib.hid (fun W hW => hd.keep (fun b hb => hW.block b (hS b hb)) (fun _ h => h))
  have HC1 : Hid (∀ W, Below w.heap.size w W → Calls Tryz.prog 167 #[.slice A3 l.len c3, .func (.func 168) #[] #[]] W fun r w' => r = .returned (.bool B1) ∧ Below W.heap.size W w') := Lib.hid (fun W hW => (containsOC l hlc (HO.out W hW) (fun g hg => Nat.lt_of_lt_of_le (hS g hg) hW.size)).mono fun r w' ⟨h1, h2⟩ => ⟨h1.yes B1 hB1, h2⟩)
  have HC2 : Hid (∀ W, Below w.heap.size w W → Calls Tryz.prog 169 #[.slice A4 d.len c4, .func (.func 170) #[] #[]] W fun r w' => r = .returned (.bool B2) ∧ Below W.heap.size W w') := Lib.hid (fun W hW => (containsEC d (HV.out W hW) (fun g hg => Nat.lt_of_lt_of_le (hS g hg) hW.size)).mono fun r w' ⟨h1, h2⟩ => ⟨h1.yes B2 hB2, h2⟩)
  have HC3 : Hid (∀ W, Below w.heap.size w W → Calls Tryz.prog 171 #[.slice A4 d.len c4] W fun r w' => r = .returned (.bool B3) ∧ Below W.heap.size W w') := Lib.hid (fun W hW => (riseAC d S W A4 c4 (HV.out W hW) (fun g hg => Nat.lt_of_lt_of_le (hS g hg) hW.size)).mono fun r w' ⟨h1, h2⟩ => ⟨h1.yes B3 hB3, h2⟩)
  obtain ⟨L3, hL3⟩ : ∃ L3, l.len = L3 := ⟨_, rfl⟩
  obtain ⟨L4, hL4⟩ : ∃ L4, d.len = L4 := ⟨_, rfl⟩
  rw [hL3] at HC1 hbel hn1 ⊢
  rw [hL4] at HC2 HC3 hbel hn1 ⊢
  obtain ⟨W1, hW1⟩ : ∃ W1, w.alloc (.cells #[.int .i64 k, .int .i64 n, .slice A2 m2 c2, .slice A3 L3 c3, .slice A4 L4 c4] 30) = W1 := ⟨_, rfl⟩
  have hs1 : W1.heap.size = w.heap.size + 1 := by rw [← hW1]; simp
  rw [hW1] at hbel hn1
  have HEL : Hid (∀ W, Below W1.heap.size W1 W → W.cell? ⟨w.heap.size, 0, none⟩ = some (.int .i64 k) ∧ W.cell? ⟨w.heap.size, 1, none⟩ = some (.int .i64 n) ∧ W.cell? ⟨w.heap.size, 2, none⟩ = some (.slice A2 m2 c2) ∧ W.cell? ⟨w.heap.size, 3, none⟩ = some (.slice A3 L3 c3) ∧ W.cell? ⟨w.heap.size, 4, none⟩ = some (.slice A4 L4 c4)) := Lib.hid (fun W hW => by
    have e1 := (hW.block w.heap.size (by omega)).trans hn1
    exact ⟨cell_of_row _ _ 0 _ _ (0, 0) e1, cell_of_row _ _ 1 _ _ (0, 0) e1, cell_of_row _ _ 2 _ _ (0, 0) e1, cell_of_row _ _ 3 _ _ (0, 0) e1, cell_of_row _ _ 4 _ _ (0, 0) e1⟩)
  have HBW : Hid (∀ W, Below W1.heap.size W1 W → Below w.heap.size w W) := Lib.hid (fun W hW => hbel.trans (hW.mono (by omega)))
  have HW1 := Lib.hid hW1
  have HB : Hid (Below W1.heap.size W1 W1) := Lib.hid (Below.refl _ _)
  obtain ⟨q0, q1, q2, q3, q4⟩ := HEL.out _ HB.out
  clear hB1 hB2 hB3 hres hbel hn1 HO HV hlc hl hd hS hL3 hL4 hW1 hs1
  cases B1 <;> cases B2 <;> cases B3
  all_goals
    go_enter Tryz.func133, Tryz.ntmps133
    go_upto_region 1 with fail
    rw [HW1.out]
    go_wp2_with (first
      | (go_at_call 167; refine (HC1.out _ (HBW.out _ HB.out)).mono ?_; (rintro e w3 ⟨rfl, hb3⟩); have HB' := Lib.hid (HB.out.trans (hb3.mono HB.out.size)); clear HB hb3 q0 q1 q2 q3 q4; have HB := HB'; clear HB'; (obtain ⟨q0, q1, q2, q3, q4⟩ := HEL.out _ HB.out))
      | (go_at_call 169; refine (HC2.out _ (HBW.out _ HB.out)).mono ?_; (rintro e w3 ⟨rfl, hb3⟩); have HB' := Lib.hid (HB.out.trans (hb3.mono HB.out.size)); clear HB hb3 q0 q1 q2 q3 q4; have HB := HB'; clear HB'; (obtain ⟨q0, q1, q2, q3, q4⟩ := HEL.out _ HB.out))
      | (go_at_call 171; refine (HC3.out _ (HBW.out _ HB.out)).mono ?_; (rintro e w3 ⟨rfl, hb3⟩); have HB' := Lib.hid (HB.out.trans (hb3.mono HB.out.size)); clear HB hb3; have HB := HB'; clear HB'))
    go_ret
    exact ⟨⟨_, rfl, HR.out⟩, HBW.out _ HB.out⟩
def FillB (k n : Int) (b l d : Nat) : Bool := decide ((n = 0 ∨ k = 1 ∨ k = 2 ∨ k = 3 ∨ k = 9) ∧ (b = 0 ∨ k = 4 ∨ k = 5 ∨ k = 8) ∧ (l = 0 ∨ k = 6) ∧ (d = 0 ∨ k = 7 ∨ k = 8))
set_option maxHeartbeats 4000000 in
theorem fill_and (k n : Int) (b l d : Nat) : ∃ R : Int, bits BinOp.andNot IntKind.i64 (fillZ n b l d) (usesZ k) = R ∧ (R == 0) = FillB k n b l d := by
  have hu : (k = 1 ∨ k = 2 ∨ k = 3 ∨ k = 9) ∧ usesZ k = 1 ∨ (k = 4 ∨ k = 5) ∧ usesZ k = 2 ∨ k = 6 ∧ usesZ k = 4 ∨ k = 7 ∧ usesZ k = 8 ∨ k = 8 ∧ usesZ k = 10 ∨ (k ≠ 1 ∧ k ≠ 2 ∧ k ≠ 3 ∧ k ≠ 9 ∧ k ≠ 4 ∧ k ≠ 5 ∧ k ≠ 6 ∧ k ≠ 7 ∧ k ≠ 8) ∧ usesZ k = 0 := by
    unfold usesZ
    by_cases a1 : k = 1 ∨ k = 2 ∨ k = 3 ∨ k = 9
    · rw [if_pos a1]; omega
    · rw [if_neg a1]
      by_cases a2 : k = 4 ∨ k = 5
      · rw [if_pos a2]; omega
      · rw [if_neg a2]
        by_cases a3 : k = 6
        · rw [if_pos a3]; omega
        · rw [if_neg a3]
          by_cases a4 : k = 7
          · rw [if_pos a4]; omega
          · rw [if_neg a4]
            by_cases a5 : k = 8
            · rw [if_pos a5]; omega
            · rw [if_neg a5]; omega
  obtain ⟨F, hF⟩ : ∃ F, fillZ n b l d = F := ⟨_, rfl⟩
  obtain ⟨U, hU⟩ : ∃ U, usesZ k = U := ⟨_, rfl⟩
  rw [hF, hU]
  rw [hU] at hu
  unfold fillZ at hF
  unfold FillB
  refine ⟨((F.toNat &&& (15 - U.toNat) : Nat) : Int), ?_, ?_⟩
  · have hf : F = 0 ∨ F = 1 ∨ F = 2 ∨ F = 3 ∨ F = 4 ∨ F = 5 ∨ F = 6 ∨ F = 7 ∨ F = 8 ∨ F = 9 ∨ F = 10 ∨ F = 11 ∨ F = 12 ∨ F = 13 ∨ F = 14 ∨ F = 15 := by
      rw [← hF]
      by_cases h1 : n = 0 <;> by_cases h2 : b = 0 <;> by_cases h3 : l = 0 <;> by_cases h4 : d = 0 <;> simp [h1, h2, h3, h4]
    have hu2 : U = 0 ∨ U = 1 ∨ U = 2 ∨ U = 4 ∨ U = 8 ∨ U = 10 := by omega
    clear hF hu hU
    rcases hf with rfl | rfl | rfl | rfl | rfl | rfl | rfl | rfl | rfl | rfl | rfl | rfl | rfl | rfl | rfl | rfl <;> rcases hu2 with rfl | rfl | rfl | rfl | rfl | rfl <;> rfl
  · by_cases h1 : n = 0 <;> by_cases h2 : b = 0 <;> by_cases h3 : l = 0 <;> by_cases h4 : d = 0
    all_goals
      simp only [h1, h2, h3, h4, if_true, if_false] at hF
      rcases hu with ⟨hk, rfl⟩ | ⟨hk, rfl⟩ | ⟨hk, rfl⟩ | ⟨hk, rfl⟩ | ⟨hk, rfl⟩ | ⟨hk, rfl⟩
      all_goals
        subst hF
        first
          | (rw [decide_eq_true (by omega)]; rfl)
          | (rw [decide_eq_false (by omega)]; rfl)
set_option maxHeartbeats 4000000 in
theorem soundC {S : Nat → Prop} (x : Ob) (c0 c1 c2 c3 c4 : Value) (w : World) (hx : ObR w S x c0 c1 c2 c3 c4) (hS : ∀ g, S g → g < w.heap.size) :
    Calls Tryz.prog 88 #[.agg #[c0, c1, c2, c3, c4]] w fun r w' => Tells r (SoundP x) ∧ Below w.heap.size w w' := by
  obtain ⟨k, n, b, l, d⟩ := x
  unfold ObR at hx
  obtain ⟨rfl, rfl, -, -, ⟨A2, m2, c2', rfl, hb⟩, ⟨A3, c3', rfl, hc3, h3⟩, ⟨A4, c4', rfl, hc4, h4⟩⟩ := hx
  have hml : b.length = m2 := hb.1
  obtain ⟨R, hbo, hR⟩ := fill_and k n m2 l.len d.len
  obtain ⟨B1, hB1⟩ : ∃ B : Bool, decide (0 ≤ k ∧ k ≤ 9) = B := ⟨_, rfl⟩
  obtain ⟨B2, hB2⟩ : ∃ B : Bool, FillB k n m2 l.len d.len = B := ⟨_, rfl⟩
  obtain ⟨B3, hB3⟩ : ∃ B : Bool, numB k n = B := ⟨_, rfl⟩
  obtain ⟨B4, hB4⟩ : ∃ B : Bool, longB k b = B := ⟨_, rfl⟩
  obtain ⟨B5, hB5⟩ : ∃ B : Bool, B = true ↔ (¬ strmL l ∧ ¬ wrongE d ∧ riseP d) := by classical exact ⟨decide (¬ strmL l ∧ ¬ wrongE d ∧ riseP d), by rw [decide_eq_true_eq]⟩
  have hres : (B1 && (B2 && (B3 && (B4 && B5)))) = true ↔ SoundP (.mk k n b l d) := by
    unfold SoundP FillP
    dsimp only
    rw [← hB5, hml, hB3, hB4]
    have e1 : (0 ≤ k ∧ k ≤ 9) ↔ B1 = true := by rw [← hB1, decide_eq_true_eq]
    have e2 := hB2
    unfold FillB at e2
    have e3 : ((n = 0 ∨ k = 1 ∨ k = 2 ∨ k = 3 ∨ k = 9) ∧ (m2 = 0 ∨ k = 4 ∨ k = 5 ∨ k = 8) ∧ (l.len = 0 ∨ k = 6) ∧ (d.len = 0 ∨ k = 7 ∨ k = 8)) ↔ B2 = true := by rw [← e2, decide_eq_true_eq]
    rw [e1, e3]
    cases B1 <;> cases B2 <;> cases B3 <;> cases B4 <;> cases B5 <;> simp
  have HR := Lib.hid hres
  have hR2 : (R == 0) = B2 := hR.trans hB2
  have hk0 : (decide (0 ≤ k) && decide (k ≤ 9)) = B1 := by rw [← hB1]; simp
  have hbel := (Below.refl w.heap.size w).alloc (Nat.le_refl _) (.cells #[.int .i64 k, .int .i64 n, .slice A2 m2 c2', .slice A3 l.len c3', .slice A4 d.len c4'] 30)
  have hn1 := heap_alloc_new w (.cells #[.int .i64 k, .int .i64 n, .slice A2 m2 c2', .slice A3 l.len c3', .slice A4 d.len c4'] 30)
  have HF : Hid (∀ W, Calls Tryz.prog 130 #[.agg #[.int .i64 k, .int .i64 n, .slice A2 m2 c2', .slice A3 l.len c3', .slice A4 d.len c4']] W fun e w' => e = .returned (.int .i64 (fillZ n m2 l.len d.len)) ∧ Below W.heap.size W w') := Lib.hid (fun W => filledC k n A2 A3 A4 m2 c2' l.len c3' d.len c4' W)
  have HN : Hid (∀ W, Calls Tryz.prog 131 #[.agg #[.int .i64 k, .int .i64 n, .slice A2 m2 c2', .slice A3 l.len c3', .slice A4 d.len c4']] W fun e w' => e = .returned (.bool B3) ∧ Below W.heap.size W w') := Lib.hid (fun W => by rw [← hB3]; exact numberedC k n _ _ _ W)
  have hbk : ∀ W, Below w.heap.size w W → BytS W S A2 m2 c2' b := fun W hW => ⟨hb.1, hb.2.1, hb.2.2.1, fun h0 => by
    obtain ⟨g, o, e, hg, hc⟩ := hb.2.2.2 h0
    exact ⟨g, o, e, hg, fun i hi => (World.cell?_of_block (a := ⟨g, o + i, none⟩) (hW.block g (hS g hg))).trans (hc i hi)⟩⟩
  have HL : Hid (∀ W, Below w.heap.size w W → Calls Tryz.prog 132 #[.agg #[.int .i64 k, .int .i64 n, .slice A2 m2 c2', .slice A3 l.len c3', .slice A4 d.len c4']] W fun e w' => e = .returned (.bool B4) ∧ Below W.heap.size W w') := Lib.hid (fun W hW => by rw [← hB4]; exact longC k _ _ _ b A2 m2 c2' W (hbk W hW) (fun g hg => Nat.lt_of_lt_of_le (hS g hg) hW.size))
  have HH : Hid (∀ W, Below w.heap.size w W → Calls Tryz.prog 133 #[.agg #[.int .i64 k, .int .i64 n, .slice A2 m2 c2', .slice A3 l.len c3', .slice A4 d.len c4']] W fun e w' => e = .returned (.bool B5) ∧ Below W.heap.size W w') := Lib.hid (fun W hW => (holdingC (S := S) k n A2 A3 A4 m2 c2' c3' c4' l d W hc3 (fun h0 => by
    obtain ⟨g, o, e, hg, hr⟩ := h3 h0
    exact ⟨g, o, e, hg, ObsR.keep (fun b hb => hW.block b (hS b hb)) (fun _ h => h) l g o hg hg hr⟩) (EnsV.keep ⟨hc4, h4⟩ (fun b hb => hW.block b (hS b hb)) (fun _ h => h)) (fun g hg => Nat.lt_of_lt_of_le (hS g hg) hW.size)).mono fun r w' ⟨h1, h2⟩ => ⟨h1.yes B5 hB5, h2⟩)
  have HU : Hid (∀ W, Calls Tryz.prog 129 #[.int .i64 k] W fun e w' => e = .returned (.int .i64 (usesZ k)) ∧ W = w') := Lib.hid (fun W => usesC k W)
  obtain ⟨F, hF⟩ : ∃ F, fillZ n m2 l.len d.len = F := ⟨_, rfl⟩
  obtain ⟨U, hU⟩ : ∃ U, usesZ k = U := ⟨_, rfl⟩
  rw [hF] at HF hbo
  rw [hU] at HU hbo
  obtain ⟨L3, hL3⟩ : ∃ L3, l.len = L3 := ⟨_, rfl⟩
  obtain ⟨L4, hL4⟩ : ∃ L4, d.len = L4 := ⟨_, rfl⟩
  rw [hL3, hL4] at HF HN HL HH hbel hn1 ⊢
  obtain ⟨W1, hW1⟩ : ∃ W1, w.alloc (.cells #[.int .i64 k, .int .i64 n, .slice A2 m2 c2', .slice A3 L3 c3', .slice A4 L4 c4'] 30) = W1 := ⟨_, rfl⟩
  have hs1 : W1.heap.size = w.heap.size + 1 := by rw [← hW1]; simp
  rw [hW1] at hbel hn1
  have HEL : Hid (∀ W, Below W1.heap.size W1 W → W.cell? ⟨w.heap.size, 0, none⟩ = some (.int .i64 k) ∧ W.cell? ⟨w.heap.size, 1, none⟩ = some (.int .i64 n) ∧ W.cell? ⟨w.heap.size, 2, none⟩ = some (.slice A2 m2 c2') ∧ W.cell? ⟨w.heap.size, 3, none⟩ = some (.slice A3 L3 c3') ∧ W.cell? ⟨w.heap.size, 4, none⟩ = some (.slice A4 L4 c4')) := Lib.hid (fun W hW => by
    have e1 := (hW.block w.heap.size (by omega)).trans hn1
    exact ⟨cell_of_row _ _ 0 _ _ (0, 0) e1, cell_of_row _ _ 1 _ _ (0, 0) e1, cell_of_row _ _ 2 _ _ (0, 0) e1, cell_of_row _ _ 3 _ _ (0, 0) e1, cell_of_row _ _ 4 _ _ (0, 0) e1⟩)
  have HBW : Hid (∀ W, Below W1.heap.size W1 W → Below w.heap.size w W) := Lib.hid (fun W hW => hbel.trans (hW.mono (by omega)))
  have HW1 := Lib.hid hW1
  have HB : Hid (Below W1.heap.size W1 W1.drew) := Lib.hid (Below.refl _ _).drew
  have HBO := Lib.hid hbo
  have HR2 := Lib.hid hR2
  have hB1' := hB1
  clear hB1 hB2 hB3 hB4 hB5 hres hR hR2 hbo hk0 hbel hn1 hbk hb hc3 h3 hc4 h4 hS hF hU hL3 hL4 hW1 hs1 hml
  cases B1
  · have hk := of_decide_eq_false hB1'
    clear hB1'
    by_cases h0 : 0 ≤ k
    · have gd0 : decide (0 ≤ k) = true := decide_eq_true h0
      have gd9 : decide (k ≤ 9) = false := decide_eq_false (fun h => hk ⟨h0, h⟩)
      clear hk h0
      go_enter Tryz.func88, Tryz.ntmps88
      go_upto_region 1 with fail
      rw [HW1.out]
      refine wp_region_heldR (fun W => W.cell? ⟨w.heap.size, 0, none⟩ = some (.int .i64 k) ∧ W.cell? ⟨w.heap.size, 1, none⟩ = some (.int .i64 n) ∧ W.cell? ⟨w.heap.size, 2, none⟩ = some (.slice A2 m2 c2') ∧ W.cell? ⟨w.heap.size, 3, none⟩ = some (.slice A3 L3 c3') ∧ W.cell? ⟨w.heap.size, 4, none⟩ = some (.slice A4 L4 c4')) 1000 (by kernel_rfl) (HEL.out _ HB.out) (fun hHeld => ?_)
      refine wpAnyR_take 0 rfl (by kernel_rfl) (by kernel_rfl) (by kernel_rfl) (by kernel_rfl) (fun _ _ _ h => h) (by rfl) (v := ?_) ?_ (by assumption) ?_
      rotate_left
      focus
        intro wS hSw
        (try dsimp only at hSw)
        go_simp
        (try simp only [hSw])
        (try simp only [gd0])
        (try simp only [gd9])
        (try simp only [hbo])
        (try simp only [hr2])
        (try simp only [hr3])
        try with_reducible rfl
      intro hHeld
      try simp only [Act.put, List.setIfInBounds_toArray, List.set_cons_zero, List.set_cons_succ]
      refine wpAnyR_take 1 rfl (by kernel_rfl) (by kernel_rfl) (by kernel_rfl) (by kernel_rfl) (fun _ _ _ h => h) (by rfl) (v := ?_) ?_ (by assumption) ?_
      rotate_left
      focus
        intro wS hSw
        (try dsimp only at hSw)
        go_simp
        (try simp only [hSw])
        (try simp only [gd0])
        (try simp only [gd9])
        (try simp only [hbo])
        (try simp only [hr2])
        (try simp only [hr3])
        try with_reducible rfl
      intro hHeld
      try simp only [Act.put, List.setIfInBounds_toArray, List.set_cons_zero, List.set_cons_succ]
      refine wpAnyR_take 2 rfl (by kernel_rfl) (by kernel_rfl) (by kernel_rfl) (by kernel_rfl) (fun _ _ _ h => h) (by rfl) (v := ?_) ?_ (by assumption) ?_
      rotate_left
      focus
        intro wS hSw
        (try dsimp only at hSw)
        go_simp
        (try simp only [hSw])
        (try simp only [gd0])
        (try simp only [gd9])
        (try simp only [hbo])
        (try simp only [hr2])
        (try simp only [hr3])
        try with_reducible rfl
      intro hHeld
      try simp only [Act.put, List.setIfInBounds_toArray, List.set_cons_zero, List.set_cons_succ]
      refine wpAnyR_take 3 rfl (by kernel_rfl) (by kernel_rfl) (by kernel_rfl) (by kernel_rfl) (fun _ _ _ h => h) (by rfl) (v := ?_) ?_ (by assumption) ?_
      rotate_left
      focus
        intro wS hSw
        (try dsimp only at hSw)
        go_simp
        (try simp only [hSw])
        (try simp only [gd0])
        (try simp only [gd9])
        (try simp only [hbo])
        (try simp only [hr2])
        (try simp only [hr3])
        try with_reducible rfl
      intro hHeld
      try simp only [Act.put, List.setIfInBounds_toArray, List.set_cons_zero, List.set_cons_succ]
      refine wpAnyR_take 4 rfl (by kernel_rfl) (by kernel_rfl) (by kernel_rfl) (by kernel_rfl) (fun _ _ _ h => h) (by rfl) (v := ?_) ?_ (by assumption) ?_
      rotate_left
      focus
        intro wS hSw
        (try dsimp only at hSw)
        go_simp
        (try simp only [hSw])
        (try simp only [gd0])
        (try simp only [gd9])
        (try simp only [hbo])
        (try simp only [hr2])
        (try simp only [hr3])
        try with_reducible rfl
      intro hHeld
      try simp only [Act.put, List.setIfInBounds_toArray, List.set_cons_zero, List.set_cons_succ]
      refine wpAnyR_take 5 rfl (by kernel_rfl) (by kernel_rfl) (by kernel_rfl) (by kernel_rfl) (fun _ _ _ h => h) (by rfl) (v := ?_) ?_ (by assumption) ?_
      rotate_left
      focus
        intro wS hSw
        (try dsimp only at hSw)
        go_simp
        (try simp only [hSw])
        (try simp only [gd0])
        (try simp only [gd9])
        (try simp only [hbo])
        (try simp only [hr2])
        (try simp only [hr3])
        try with_reducible rfl
      intro hHeld
      try simp only [Act.put, List.setIfInBounds_toArray, List.set_cons_zero, List.set_cons_succ]
      refine wpAnyR_take 6 rfl (by kernel_rfl) (by kernel_rfl) (by kernel_rfl) (by kernel_rfl) (fun _ _ _ h => h) (by rfl) (v := ?_) ?_ (by assumption) ?_
      rotate_left
      focus
        intro wS hSw
        (try dsimp only at hSw)
        go_simp
        (try simp only [hSw])
        (try simp only [gd0])
        (try simp only [gd9])
        (try simp only [hbo])
        (try simp only [hr2])
        (try simp only [hr3])
        try with_reducible rfl
      intro hHeld
      try simp only [Act.put, List.setIfInBounds_toArray, List.set_cons_zero, List.set_cons_succ]
      refine wpAnyR_take 7 rfl (by kernel_rfl) (by kernel_rfl) (by kernel_rfl) (by kernel_rfl) (fun _ _ _ h => h) (by rfl) (v := ?_) ?_ (by assumption) ?_
      rotate_left
      focus
        intro wS hSw
        (try dsimp only at hSw)
        go_simp
        (try simp only [hSw])
        (try simp only [gd0])
        (try simp only [gd9])
        (try simp only [hbo])
        (try simp only [hr2])
        (try simp only [hr3])
        try with_reducible rfl
      intro hHeld
      try simp only [Act.put, List.setIfInBounds_toArray, List.set_cons_zero, List.set_cons_succ]
      refine wpAnyR_take 8 rfl (by kernel_rfl) (by kernel_rfl) (by kernel_rfl) (by kernel_rfl) (fun _ _ _ h => h) (by rfl) (v := ?_) ?_ (by assumption) ?_
      rotate_left
      focus
        intro wS hSw
        (try dsimp only at hSw)
        go_simp
        (try simp only [hSw])
        (try simp only [gd0])
        (try simp only [gd9])
        (try simp only [hbo])
        (try simp only [hr2])
        (try simp only [hr3])
        try with_reducible rfl
      intro hHeld
      try simp only [Act.put, List.setIfInBounds_toArray, List.set_cons_zero, List.set_cons_succ]
      refine wpAnyR_skip 9 rfl (by kernel_rfl) (by kernel_rfl) (by kernel_rfl) (by kernel_rfl) (fun _ _ _ h => h) (by rfl) (by assumption) ?_
      intro hHeld
      try simp only [Act.put, List.setIfInBounds_toArray, List.set_cons_zero, List.set_cons_succ]
      refine wpAnyR_skip 10 rfl (by kernel_rfl) (by kernel_rfl) (by kernel_rfl) (by kernel_rfl) (fun _ _ _ h => h) (by rfl) (by assumption) ?_
      intro hHeld
      try simp only [Act.put, List.setIfInBounds_toArray, List.set_cons_zero, List.set_cons_succ]
      refine wpAnyR_skip 11 rfl (by kernel_rfl) (by kernel_rfl) (by kernel_rfl) (by kernel_rfl) (fun _ _ _ h => h) (by rfl) (by assumption) ?_
      intro hHeld
      try simp only [Act.put, List.setIfInBounds_toArray, List.set_cons_zero, List.set_cons_succ]
      refine wpAnyR_skip 12 rfl (by kernel_rfl) (by kernel_rfl) (by kernel_rfl) (by kernel_rfl) (fun _ _ _ h => h) (by rfl) (by assumption) ?_
      intro hHeld
      try simp only [Act.put, List.setIfInBounds_toArray, List.set_cons_zero, List.set_cons_succ]
      refine wpAnyR_skip 13 rfl (by kernel_rfl) (by kernel_rfl) (by kernel_rfl) (by kernel_rfl) (fun _ _ _ h => h) (by rfl) (by assumption) ?_
      intro hHeld
      try simp only [Act.put, List.setIfInBounds_toArray, List.set_cons_zero, List.set_cons_succ]
      refine wpAnyR_skip 14 rfl (by kernel_rfl) (by kernel_rfl) (by kernel_rfl) (by kernel_rfl) (fun _ _ _ h => h) (by rfl) (by assumption) ?_
      intro hHeld
      try simp only [Act.put, List.setIfInBounds_toArray, List.set_cons_zero, List.set_cons_succ]
      refine wpAnyR_skip 15 rfl (by kernel_rfl) (by kernel_rfl) (by kernel_rfl) (by kernel_rfl) (fun _ _ _ h => h) (by rfl) (by assumption) ?_
      intro hHeld
      try simp only [Act.put, List.setIfInBounds_toArray, List.set_cons_zero, List.set_cons_succ]
      refine wpAnyR_take 16 rfl (by kernel_rfl) (by kernel_rfl) (by kernel_rfl) (by kernel_rfl) (fun _ _ _ h => h) (by rfl) (v := ?_) ?_ (by assumption) ?_
      rotate_left
      focus
        intro wS hSw
        (try dsimp only at hSw)
        go_simp
        (try simp only [hSw])
        (try simp only [gd0])
        (try simp only [gd9])
        (try simp only [hbo])
        (try simp only [hr2])
        (try simp only [hr3])
        try with_reducible rfl
      intro hHeld
      try simp only [Act.put, List.setIfInBounds_toArray, List.set_cons_zero, List.set_cons_succ]
      refine wpAnyR_take 17 rfl (by kernel_rfl) (by kernel_rfl) (by kernel_rfl) (by kernel_rfl) (fun _ _ _ h => h) (by rfl) (v := ?_) ?_ (by assumption) ?_
      rotate_left
      focus
        intro wS hSw
        (try dsimp only at hSw)
        go_simp
        (try simp only [hSw])
        (try simp only [gd0])
        (try simp only [gd9])
        (try simp only [hbo])
        (try simp only [hr2])
        (try simp only [hr3])
        try with_reducible rfl
      intro hHeld
      try simp only [Act.put, List.setIfInBounds_toArray, List.set_cons_zero, List.set_cons_succ]
      refine wpAnyR_skip 18 rfl (by kernel_rfl) (by kernel_rfl) (by kernel_rfl) (by kernel_rfl) (fun _ _ _ h => h) (by rfl) (by assumption) ?_
      intro hHeld
      try simp only [Act.put, List.setIfInBounds_toArray, List.set_cons_zero, List.set_cons_succ]
      refine wpAnyR_skip 19 rfl (by kernel_rfl) (by kernel_rfl) (by kernel_rfl) (by kernel_rfl) (fun _ _ _ h => h) (by rfl) (by assumption) ?_
      intro hHeld
      try simp only [Act.put, List.setIfInBounds_toArray, List.set_cons_zero, List.set_cons_succ]
      refine wpAnyR_take 20 rfl (by kernel_rfl) (by kernel_rfl) (by kernel_rfl) (by kernel_rfl) (fun _ _ _ h => h) (by rfl) (v := ?_) ?_ (by assumption) ?_
      rotate_left
      focus
        intro wS hSw
        (try dsimp only at hSw)
        go_simp
        (try simp only [hSw])
        (try simp only [gd0])
        (try simp only [gd9])
        (try simp only [hbo])
        (try simp only [hr2])
        (try simp only [hr3])
        try with_reducible rfl
      intro hHeld
      try simp only [Act.put, List.setIfInBounds_toArray, List.set_cons_zero, List.set_cons_succ]
      refine wpAnyR_take 21 rfl (by kernel_rfl) (by kernel_rfl) (by kernel_rfl) (by kernel_rfl) (fun _ _ _ h => h) (by rfl) (v := ?_) ?_ (by assumption) ?_
      rotate_left
      focus
        intro wS hSw
        (try dsimp only at hSw)
        go_simp
        (try simp only [hSw])
        (try simp only [gd0])
        (try simp only [gd9])
        (try simp only [hbo])
        (try simp only [hr2])
        (try simp only [hr3])
        try with_reducible rfl
      intro hHeld
      try simp only [Act.put, List.setIfInBounds_toArray, List.set_cons_zero, List.set_cons_succ]
      refine wpAnyR_skip 22 rfl (by kernel_rfl) (by kernel_rfl) (by kernel_rfl) (by kernel_rfl) (fun _ _ _ h => h) (by rfl) (by assumption) ?_
      intro hHeld
      try simp only [Act.put, List.setIfInBounds_toArray, List.set_cons_zero, List.set_cons_succ]
      refine wpAnyR_skip 23 rfl (by kernel_rfl) (by kernel_rfl) (by kernel_rfl) (by kernel_rfl) (fun _ _ _ h => h) (by rfl) (by assumption) ?_
      intro hHeld
      try simp only [Act.put, List.setIfInBounds_toArray, List.set_cons_zero, List.set_cons_succ]
      refine wpAnyR_take 24 rfl (by kernel_rfl) (by kernel_rfl) (by kernel_rfl) (by kernel_rfl) (fun _ _ _ h => h) (by rfl) (v := ?_) ?_ (by assumption) ?_
      rotate_left
      focus
        intro wS hSw
        (try dsimp only at hSw)
        go_simp
        (try simp only [hSw])
        (try simp only [gd0])
        (try simp only [gd9])
        (try simp only [hbo])
        (try simp only [hr2])
        (try simp only [hr3])
        try with_reducible rfl
      intro hHeld
      try simp only [Act.put, List.setIfInBounds_toArray, List.set_cons_zero, List.set_cons_succ]
      refine wpAnyR_take 25 rfl (by kernel_rfl) (by kernel_rfl) (by kernel_rfl) (by kernel_rfl) (fun _ _ _ h => h) (by rfl) (v := ?_) ?_ (by assumption) ?_
      rotate_left
      focus
        intro wS hSw
        (try dsimp only at hSw)
        go_simp
        (try simp only [hSw])
        (try simp only [gd0])
        (try simp only [gd9])
        (try simp only [hbo])
        (try simp only [hr2])
        (try simp only [hr3])
        try with_reducible rfl
      intro hHeld
      try simp only [Act.put, List.setIfInBounds_toArray, List.set_cons_zero, List.set_cons_succ]
      refine wpAnyR_skip 26 rfl (by kernel_rfl) (by kernel_rfl) (by kernel_rfl) (by kernel_rfl) (fun _ _ _ h => h) (by rfl) (by assumption) ?_
      intro hHeld
      try simp only [Act.put, List.setIfInBounds_toArray, List.set_cons_zero, List.set_cons_succ]
      refine wpAnyR_skip 27 rfl (by kernel_rfl) (by kernel_rfl) (by kernel_rfl) (by kernel_rfl) (fun _ _ _ h => h) (by rfl) (by assumption) ?_
      intro hHeld
      try simp only [Act.put, List.setIfInBounds_toArray, List.set_cons_zero, List.set_cons_succ]
      refine wpAnyR_take 28 rfl (by kernel_rfl) (by kernel_rfl) (by kernel_rfl) (by kernel_rfl) (fun _ _ _ h => h) (by rfl) (v := ?_) ?_ (by assumption) ?_
      rotate_left
      focus
        intro wS hSw
        (try dsimp only at hSw)
        go_simp
        (try simp only [hSw])
        (try simp only [gd0])
        (try simp only [gd9])
        (try simp only [hbo])
        (try simp only [hr2])
        (try simp only [hr3])
        try with_reducible rfl
      intro hHeld
      try simp only [Act.put, List.setIfInBounds_toArray, List.set_cons_zero, List.set_cons_succ]
      refine wpAnyR_take 29 rfl (by kernel_rfl) (by kernel_rfl) (by kernel_rfl) (by kernel_rfl) (fun _ _ _ h => h) (by rfl) (v := ?_) ?_ (by assumption) ?_
      rotate_left
      focus
        intro wS hSw
        (try dsimp only at hSw)
        go_simp
        (try simp only [hSw])
        (try simp only [gd0])
        (try simp only [gd9])
        (try simp only [hbo])
        (try simp only [hr2])
        (try simp only [hr3])
        try with_reducible rfl
      intro hHeld
      try simp only [Act.put, List.setIfInBounds_toArray, List.set_cons_zero, List.set_cons_succ]
      refine wpAnyR_done (by kernel_rfl) ?_
      refine NoPanic.normal ?_
      go_wp2_with fail
      go_ret
      exact ⟨⟨_, rfl, HR.out⟩, HBW.out _ HB.out⟩
    · have gd0 : decide (0 ≤ k) = false := decide_eq_false h0
      clear hk h0
      go_enter Tryz.func88, Tryz.ntmps88
      go_upto_region 1 with fail
      rw [HW1.out]
      refine wp_region_heldR (fun W => W.cell? ⟨w.heap.size, 0, none⟩ = some (.int .i64 k) ∧ W.cell? ⟨w.heap.size, 1, none⟩ = some (.int .i64 n) ∧ W.cell? ⟨w.heap.size, 2, none⟩ = some (.slice A2 m2 c2') ∧ W.cell? ⟨w.heap.size, 3, none⟩ = some (.slice A3 L3 c3') ∧ W.cell? ⟨w.heap.size, 4, none⟩ = some (.slice A4 L4 c4')) 1000 (by kernel_rfl) (HEL.out _ HB.out) (fun hHeld => ?_)
      refine wpAnyR_take 0 rfl (by kernel_rfl) (by kernel_rfl) (by kernel_rfl) (by kernel_rfl) (fun _ _ _ h => h) (by rfl) (v := ?_) ?_ (by assumption) ?_
      rotate_left
      focus
        intro wS hSw
        (try dsimp only at hSw)
        go_simp
        (try simp only [hSw])
        (try simp only [gd0])
        (try simp only [gd9])
        (try simp only [hbo])
        (try simp only [hr2])
        (try simp only [hr3])
        try with_reducible rfl
      intro hHeld
      try simp only [Act.put, List.setIfInBounds_toArray, List.set_cons_zero, List.set_cons_succ]
      refine wpAnyR_take 1 rfl (by kernel_rfl) (by kernel_rfl) (by kernel_rfl) (by kernel_rfl) (fun _ _ _ h => h) (by rfl) (v := ?_) ?_ (by assumption) ?_
      rotate_left
      focus
        intro wS hSw
        (try dsimp only at hSw)
        go_simp
        (try simp only [hSw])
        (try simp only [gd0])
        (try simp only [gd9])
        (try simp only [hbo])
        (try simp only [hr2])
        (try simp only [hr3])
        try with_reducible rfl
      intro hHeld
      try simp only [Act.put, List.setIfInBounds_toArray, List.set_cons_zero, List.set_cons_succ]
      refine wpAnyR_take 2 rfl (by kernel_rfl) (by kernel_rfl) (by kernel_rfl) (by kernel_rfl) (fun _ _ _ h => h) (by rfl) (v := ?_) ?_ (by assumption) ?_
      rotate_left
      focus
        intro wS hSw
        (try dsimp only at hSw)
        go_simp
        (try simp only [hSw])
        (try simp only [gd0])
        (try simp only [gd9])
        (try simp only [hbo])
        (try simp only [hr2])
        (try simp only [hr3])
        try with_reducible rfl
      intro hHeld
      try simp only [Act.put, List.setIfInBounds_toArray, List.set_cons_zero, List.set_cons_succ]
      refine wpAnyR_take 3 rfl (by kernel_rfl) (by kernel_rfl) (by kernel_rfl) (by kernel_rfl) (fun _ _ _ h => h) (by rfl) (v := ?_) ?_ (by assumption) ?_
      rotate_left
      focus
        intro wS hSw
        (try dsimp only at hSw)
        go_simp
        (try simp only [hSw])
        (try simp only [gd0])
        (try simp only [gd9])
        (try simp only [hbo])
        (try simp only [hr2])
        (try simp only [hr3])
        try with_reducible rfl
      intro hHeld
      try simp only [Act.put, List.setIfInBounds_toArray, List.set_cons_zero, List.set_cons_succ]
      refine wpAnyR_skip 4 rfl (by kernel_rfl) (by kernel_rfl) (by kernel_rfl) (by kernel_rfl) (fun _ _ _ h => h) (by rfl) (by assumption) ?_
      intro hHeld
      try simp only [Act.put, List.setIfInBounds_toArray, List.set_cons_zero, List.set_cons_succ]
      refine wpAnyR_skip 5 rfl (by kernel_rfl) (by kernel_rfl) (by kernel_rfl) (by kernel_rfl) (fun _ _ _ h => h) (by rfl) (by assumption) ?_
      intro hHeld
      try simp only [Act.put, List.setIfInBounds_toArray, List.set_cons_zero, List.set_cons_succ]
      refine wpAnyR_skip 6 rfl (by kernel_rfl) (by kernel_rfl) (by kernel_rfl) (by kernel_rfl) (fun _ _ _ h => h) (by rfl) (by assumption) ?_
      intro hHeld
      try simp only [Act.put, List.setIfInBounds_toArray, List.set_cons_zero, List.set_cons_succ]
      refine wpAnyR_take 7 rfl (by kernel_rfl) (by kernel_rfl) (by kernel_rfl) (by kernel_rfl) (fun _ _ _ h => h) (by rfl) (v := ?_) ?_ (by assumption) ?_
      rotate_left
      focus
        intro wS hSw
        (try dsimp only at hSw)
        go_simp
        (try simp only [hSw])
        (try simp only [gd0])
        (try simp only [gd9])
        (try simp only [hbo])
        (try simp only [hr2])
        (try simp only [hr3])
        try with_reducible rfl
      intro hHeld
      try simp only [Act.put, List.setIfInBounds_toArray, List.set_cons_zero, List.set_cons_succ]
      refine wpAnyR_take 8 rfl (by kernel_rfl) (by kernel_rfl) (by kernel_rfl) (by kernel_rfl) (fun _ _ _ h => h) (by rfl) (v := ?_) ?_ (by assumption) ?_
      rotate_left
      focus
        intro wS hSw
        (try dsimp only at hSw)
        go_simp
        (try simp only [hSw])
        (try simp only [gd0])
        (try simp only [gd9])
        (try simp only [hbo])
        (try simp only [hr2])
        (try simp only [hr3])
        try with_reducible rfl
      intro hHeld
      try simp only [Act.put, List.setIfInBounds_toArray, List.set_cons_zero, List.set_cons_succ]
      refine wpAnyR_skip 9 rfl (by kernel_rfl) (by kernel_rfl) (by kernel_rfl) (by kernel_rfl) (fun _ _ _ h => h) (by rfl) (by assumption) ?_
      intro hHeld
      try simp only [Act.put, List.setIfInBounds_toArray, List.set_cons_zero, List.set_cons_succ]
      refine wpAnyR_skip 10 rfl (by kernel_rfl) (by kernel_rfl) (by kernel_rfl) (by kernel_rfl) (fun _ _ _ h => h) (by rfl) (by assumption) ?_
      intro hHeld
      try simp only [Act.put, List.setIfInBounds_toArray, List.set_cons_zero, List.set_cons_succ]
      refine wpAnyR_skip 11 rfl (by kernel_rfl) (by kernel_rfl) (by kernel_rfl) (by kernel_rfl) (fun _ _ _ h => h) (by rfl) (by assumption) ?_
      intro hHeld
      try simp only [Act.put, List.setIfInBounds_toArray, List.set_cons_zero, List.set_cons_succ]
      refine wpAnyR_skip 12 rfl (by kernel_rfl) (by kernel_rfl) (by kernel_rfl) (by kernel_rfl) (fun _ _ _ h => h) (by rfl) (by assumption) ?_
      intro hHeld
      try simp only [Act.put, List.setIfInBounds_toArray, List.set_cons_zero, List.set_cons_succ]
      refine wpAnyR_skip 13 rfl (by kernel_rfl) (by kernel_rfl) (by kernel_rfl) (by kernel_rfl) (fun _ _ _ h => h) (by rfl) (by assumption) ?_
      intro hHeld
      try simp only [Act.put, List.setIfInBounds_toArray, List.set_cons_zero, List.set_cons_succ]
      refine wpAnyR_skip 14 rfl (by kernel_rfl) (by kernel_rfl) (by kernel_rfl) (by kernel_rfl) (fun _ _ _ h => h) (by rfl) (by assumption) ?_
      intro hHeld
      try simp only [Act.put, List.setIfInBounds_toArray, List.set_cons_zero, List.set_cons_succ]
      refine wpAnyR_skip 15 rfl (by kernel_rfl) (by kernel_rfl) (by kernel_rfl) (by kernel_rfl) (fun _ _ _ h => h) (by rfl) (by assumption) ?_
      intro hHeld
      try simp only [Act.put, List.setIfInBounds_toArray, List.set_cons_zero, List.set_cons_succ]
      refine wpAnyR_take 16 rfl (by kernel_rfl) (by kernel_rfl) (by kernel_rfl) (by kernel_rfl) (fun _ _ _ h => h) (by rfl) (v := ?_) ?_ (by assumption) ?_
      rotate_left
      focus
        intro wS hSw
        (try dsimp only at hSw)
        go_simp
        (try simp only [hSw])
        (try simp only [gd0])
        (try simp only [gd9])
        (try simp only [hbo])
        (try simp only [hr2])
        (try simp only [hr3])
        try with_reducible rfl
      intro hHeld
      try simp only [Act.put, List.setIfInBounds_toArray, List.set_cons_zero, List.set_cons_succ]
      refine wpAnyR_take 17 rfl (by kernel_rfl) (by kernel_rfl) (by kernel_rfl) (by kernel_rfl) (fun _ _ _ h => h) (by rfl) (v := ?_) ?_ (by assumption) ?_
      rotate_left
      focus
        intro wS hSw
        (try dsimp only at hSw)
        go_simp
        (try simp only [hSw])
        (try simp only [gd0])
        (try simp only [gd9])
        (try simp only [hbo])
        (try simp only [hr2])
        (try simp only [hr3])
        try with_reducible rfl
      intro hHeld
      try simp only [Act.put, List.setIfInBounds_toArray, List.set_cons_zero, List.set_cons_succ]
      refine wpAnyR_skip 18 rfl (by kernel_rfl) (by kernel_rfl) (by kernel_rfl) (by kernel_rfl) (fun _ _ _ h => h) (by rfl) (by assumption) ?_
      intro hHeld
      try simp only [Act.put, List.setIfInBounds_toArray, List.set_cons_zero, List.set_cons_succ]
      refine wpAnyR_skip 19 rfl (by kernel_rfl) (by kernel_rfl) (by kernel_rfl) (by kernel_rfl) (fun _ _ _ h => h) (by rfl) (by assumption) ?_
      intro hHeld
      try simp only [Act.put, List.setIfInBounds_toArray, List.set_cons_zero, List.set_cons_succ]
      refine wpAnyR_take 20 rfl (by kernel_rfl) (by kernel_rfl) (by kernel_rfl) (by kernel_rfl) (fun _ _ _ h => h) (by rfl) (v := ?_) ?_ (by assumption) ?_
      rotate_left
      focus
        intro wS hSw
        (try dsimp only at hSw)
        go_simp
        (try simp only [hSw])
        (try simp only [gd0])
        (try simp only [gd9])
        (try simp only [hbo])
        (try simp only [hr2])
        (try simp only [hr3])
        try with_reducible rfl
      intro hHeld
      try simp only [Act.put, List.setIfInBounds_toArray, List.set_cons_zero, List.set_cons_succ]
      refine wpAnyR_take 21 rfl (by kernel_rfl) (by kernel_rfl) (by kernel_rfl) (by kernel_rfl) (fun _ _ _ h => h) (by rfl) (v := ?_) ?_ (by assumption) ?_
      rotate_left
      focus
        intro wS hSw
        (try dsimp only at hSw)
        go_simp
        (try simp only [hSw])
        (try simp only [gd0])
        (try simp only [gd9])
        (try simp only [hbo])
        (try simp only [hr2])
        (try simp only [hr3])
        try with_reducible rfl
      intro hHeld
      try simp only [Act.put, List.setIfInBounds_toArray, List.set_cons_zero, List.set_cons_succ]
      refine wpAnyR_skip 22 rfl (by kernel_rfl) (by kernel_rfl) (by kernel_rfl) (by kernel_rfl) (fun _ _ _ h => h) (by rfl) (by assumption) ?_
      intro hHeld
      try simp only [Act.put, List.setIfInBounds_toArray, List.set_cons_zero, List.set_cons_succ]
      refine wpAnyR_skip 23 rfl (by kernel_rfl) (by kernel_rfl) (by kernel_rfl) (by kernel_rfl) (fun _ _ _ h => h) (by rfl) (by assumption) ?_
      intro hHeld
      try simp only [Act.put, List.setIfInBounds_toArray, List.set_cons_zero, List.set_cons_succ]
      refine wpAnyR_take 24 rfl (by kernel_rfl) (by kernel_rfl) (by kernel_rfl) (by kernel_rfl) (fun _ _ _ h => h) (by rfl) (v := ?_) ?_ (by assumption) ?_
      rotate_left
      focus
        intro wS hSw
        (try dsimp only at hSw)
        go_simp
        (try simp only [hSw])
        (try simp only [gd0])
        (try simp only [gd9])
        (try simp only [hbo])
        (try simp only [hr2])
        (try simp only [hr3])
        try with_reducible rfl
      intro hHeld
      try simp only [Act.put, List.setIfInBounds_toArray, List.set_cons_zero, List.set_cons_succ]
      refine wpAnyR_take 25 rfl (by kernel_rfl) (by kernel_rfl) (by kernel_rfl) (by kernel_rfl) (fun _ _ _ h => h) (by rfl) (v := ?_) ?_ (by assumption) ?_
      rotate_left
      focus
        intro wS hSw
        (try dsimp only at hSw)
        go_simp
        (try simp only [hSw])
        (try simp only [gd0])
        (try simp only [gd9])
        (try simp only [hbo])
        (try simp only [hr2])
        (try simp only [hr3])
        try with_reducible rfl
      intro hHeld
      try simp only [Act.put, List.setIfInBounds_toArray, List.set_cons_zero, List.set_cons_succ]
      refine wpAnyR_skip 26 rfl (by kernel_rfl) (by kernel_rfl) (by kernel_rfl) (by kernel_rfl) (fun _ _ _ h => h) (by rfl) (by assumption) ?_
      intro hHeld
      try simp only [Act.put, List.setIfInBounds_toArray, List.set_cons_zero, List.set_cons_succ]
      refine wpAnyR_skip 27 rfl (by kernel_rfl) (by kernel_rfl) (by kernel_rfl) (by kernel_rfl) (fun _ _ _ h => h) (by rfl) (by assumption) ?_
      intro hHeld
      try simp only [Act.put, List.setIfInBounds_toArray, List.set_cons_zero, List.set_cons_succ]
      refine wpAnyR_take 28 rfl (by kernel_rfl) (by kernel_rfl) (by kernel_rfl) (by kernel_rfl) (fun _ _ _ h => h) (by rfl) (v := ?_) ?_ (by assumption) ?_
      rotate_left
      focus
        intro wS hSw
        (try dsimp only at hSw)
        go_simp
        (try simp only [hSw])
        (try simp only [gd0])
        (try simp only [gd9])
        (try simp only [hbo])
        (try simp only [hr2])
        (try simp only [hr3])
        try with_reducible rfl
      intro hHeld
      try simp only [Act.put, List.setIfInBounds_toArray, List.set_cons_zero, List.set_cons_succ]
      refine wpAnyR_take 29 rfl (by kernel_rfl) (by kernel_rfl) (by kernel_rfl) (by kernel_rfl) (fun _ _ _ h => h) (by rfl) (v := ?_) ?_ (by assumption) ?_
      rotate_left
      focus
        intro wS hSw
        (try dsimp only at hSw)
        go_simp
        (try simp only [hSw])
        (try simp only [gd0])
        (try simp only [gd9])
        (try simp only [hbo])
        (try simp only [hr2])
        (try simp only [hr3])
        try with_reducible rfl
      intro hHeld
      try simp only [Act.put, List.setIfInBounds_toArray, List.set_cons_zero, List.set_cons_succ]
      refine wpAnyR_done (by kernel_rfl) ?_
      refine NoPanic.normal ?_
      go_wp2_with fail
      go_ret
      exact ⟨⟨_, rfl, HR.out⟩, HBW.out _ HB.out⟩
  have gd0 : decide (0 ≤ k) = true := decide_eq_true (of_decide_eq_true hB1').1
  have gd9 : decide (k ≤ 9) = true := decide_eq_true (of_decide_eq_true hB1').2
  clear hB1'
  have hbo := HBO.out
  have hr2 := HR2.out
  have hr3 : decide (R = 0) = B2 := by rw [← hr2]; rfl
  cases B2
  · go_enter Tryz.func88, Tryz.ntmps88
    go_upto_region 1 with fail
    rw [HW1.out]
    refine wp_region_heldR (fun W => W.cell? ⟨w.heap.size, 0, none⟩ = some (.int .i64 k) ∧ W.cell? ⟨w.heap.size, 1, none⟩ = some (.int .i64 n) ∧ W.cell? ⟨w.heap.size, 2, none⟩ = some (.slice A2 m2 c2') ∧ W.cell? ⟨w.heap.size, 3, none⟩ = some (.slice A3 L3 c3') ∧ W.cell? ⟨w.heap.size, 4, none⟩ = some (.slice A4 L4 c4')) 1000 (by kernel_rfl) (HEL.out _ HB.out) (fun hHeld => ?_)
    refine wpAnyR_take 0 rfl (by kernel_rfl) (by kernel_rfl) (by kernel_rfl) (by kernel_rfl) (fun _ _ _ h => h) (by rfl) (v := ?_) ?_ (by assumption) ?_
    rotate_left
    focus
      intro wS hSw
      (try dsimp only at hSw)
      go_simp
      (try simp only [hSw])
      (try simp only [gd0])
      (try simp only [gd9])
      (try simp only [hbo])
      (try simp only [hr2])
      (try simp only [hr3])
      try with_reducible rfl
    intro hHeld
    try simp only [Act.put, List.setIfInBounds_toArray, List.set_cons_zero, List.set_cons_succ]
    refine wpAnyR_take 1 rfl (by kernel_rfl) (by kernel_rfl) (by kernel_rfl) (by kernel_rfl) (fun _ _ _ h => h) (by rfl) (v := ?_) ?_ (by assumption) ?_
    rotate_left
    focus
      intro wS hSw
      (try dsimp only at hSw)
      go_simp
      (try simp only [hSw])
      (try simp only [gd0])
      (try simp only [gd9])
      (try simp only [hbo])
      (try simp only [hr2])
      (try simp only [hr3])
      try with_reducible rfl
    intro hHeld
    try simp only [Act.put, List.setIfInBounds_toArray, List.set_cons_zero, List.set_cons_succ]
    refine wpAnyR_take 2 rfl (by kernel_rfl) (by kernel_rfl) (by kernel_rfl) (by kernel_rfl) (fun _ _ _ h => h) (by rfl) (v := ?_) ?_ (by assumption) ?_
    rotate_left
    focus
      intro wS hSw
      (try dsimp only at hSw)
      go_simp
      (try simp only [hSw])
      (try simp only [gd0])
      (try simp only [gd9])
      (try simp only [hbo])
      (try simp only [hr2])
      (try simp only [hr3])
      try with_reducible rfl
    intro hHeld
    try simp only [Act.put, List.setIfInBounds_toArray, List.set_cons_zero, List.set_cons_succ]
    refine wpAnyR_take 3 rfl (by kernel_rfl) (by kernel_rfl) (by kernel_rfl) (by kernel_rfl) (fun _ _ _ h => h) (by rfl) (v := ?_) ?_ (by assumption) ?_
    rotate_left
    focus
      intro wS hSw
      (try dsimp only at hSw)
      go_simp
      (try simp only [hSw])
      (try simp only [gd0])
      (try simp only [gd9])
      (try simp only [hbo])
      (try simp only [hr2])
      (try simp only [hr3])
      try with_reducible rfl
    intro hHeld
    try simp only [Act.put, List.setIfInBounds_toArray, List.set_cons_zero, List.set_cons_succ]
    refine wpAnyR_take 4 rfl (by kernel_rfl) (by kernel_rfl) (by kernel_rfl) (by kernel_rfl) (fun _ _ _ h => h) (by rfl) (v := ?_) ?_ (by assumption) ?_
    rotate_left
    focus
      intro wS hSw
      (try dsimp only at hSw)
      go_simp
      (try simp only [hSw])
      (try simp only [gd0])
      (try simp only [gd9])
      (try simp only [hbo])
      (try simp only [hr2])
      (try simp only [hr3])
      try with_reducible rfl
    intro hHeld
    try simp only [Act.put, List.setIfInBounds_toArray, List.set_cons_zero, List.set_cons_succ]
    refine wpAnyR_take 5 rfl (by kernel_rfl) (by kernel_rfl) (by kernel_rfl) (by kernel_rfl) (fun _ _ _ h => h) (by rfl) (v := ?_) ?_ (by assumption) ?_
    rotate_left
    focus
      intro wS hSw
      (try dsimp only at hSw)
      go_simp
      (try simp only [hSw])
      (try simp only [gd0])
      (try simp only [gd9])
      (try simp only [hbo])
      (try simp only [hr2])
      (try simp only [hr3])
      try with_reducible rfl
    intro hHeld
    try simp only [Act.put, List.setIfInBounds_toArray, List.set_cons_zero, List.set_cons_succ]
    refine wpAnyR_take 6 rfl (by kernel_rfl) (by kernel_rfl) (by kernel_rfl) (by kernel_rfl) (fun _ _ _ h => h) (by rfl) (v := ?_) ?_ (by assumption) ?_
    rotate_left
    focus
      intro wS hSw
      (try dsimp only at hSw)
      go_simp
      (try simp only [hSw])
      (try simp only [gd0])
      (try simp only [gd9])
      (try simp only [hbo])
      (try simp only [hr2])
      (try simp only [hr3])
      try with_reducible rfl
    intro hHeld
    try simp only [Act.put, List.setIfInBounds_toArray, List.set_cons_zero, List.set_cons_succ]
    refine wpAnyR_take 7 rfl (by kernel_rfl) (by kernel_rfl) (by kernel_rfl) (by kernel_rfl) (fun _ _ _ h => h) (by rfl) (v := ?_) ?_ (by assumption) ?_
    rotate_left
    focus
      intro wS hSw
      (try dsimp only at hSw)
      go_simp
      (try simp only [hSw])
      (try simp only [gd0])
      (try simp only [gd9])
      (try simp only [hbo])
      (try simp only [hr2])
      (try simp only [hr3])
      try with_reducible rfl
    intro hHeld
    try simp only [Act.put, List.setIfInBounds_toArray, List.set_cons_zero, List.set_cons_succ]
    refine wpAnyR_take 8 rfl (by kernel_rfl) (by kernel_rfl) (by kernel_rfl) (by kernel_rfl) (fun _ _ _ h => h) (by rfl) (v := ?_) ?_ (by assumption) ?_
    rotate_left
    focus
      intro wS hSw
      (try dsimp only at hSw)
      go_simp
      (try simp only [hSw])
      (try simp only [gd0])
      (try simp only [gd9])
      (try simp only [hbo])
      (try simp only [hr2])
      (try simp only [hr3])
      try with_reducible rfl
    intro hHeld
    try simp only [Act.put, List.setIfInBounds_toArray, List.set_cons_zero, List.set_cons_succ]
    refine wpAnyR_take 9 rfl (by kernel_rfl) (by kernel_rfl) (by kernel_rfl) (by kernel_rfl) (fun _ _ _ h => h) (by rfl) (v := ?_) ?_ (by assumption) ?_
    rotate_left
    focus
      intro wS hSw
      (try dsimp only at hSw)
      go_simp
      (try simp only [hSw])
      (try simp only [gd0])
      (try simp only [gd9])
      (try simp only [hbo])
      (try simp only [hr2])
      (try simp only [hr3])
      try with_reducible rfl
    intro hHeld
    try simp only [Act.put, List.setIfInBounds_toArray, List.set_cons_zero, List.set_cons_succ]
    refine wpAnyR_take 11 rfl (by kernel_rfl) (by kernel_rfl) (by kernel_rfl) (by kernel_rfl) (fun _ _ _ h => h) (by rfl) (v := ?_) ?_ (by assumption) ?_
    rotate_left
    focus
      intro wS hSw
      (try dsimp only at hSw)
      go_simp
      (try simp only [hSw])
      (try simp only [gd0])
      (try simp only [gd9])
      (try simp only [hbo])
      (try simp only [hr2])
      (try simp only [hr3])
      try with_reducible rfl
    intro hHeld
    try simp only [Act.put, List.setIfInBounds_toArray, List.set_cons_zero, List.set_cons_succ]
    refine wpAnyR_take 12 rfl (by kernel_rfl) (by kernel_rfl) (by kernel_rfl) (by kernel_rfl) (fun _ _ _ h => h) (by rfl) (v := ?_) ?_ (by assumption) ?_
    rotate_left
    focus
      intro wS hSw
      (try dsimp only at hSw)
      go_simp
      (try simp only [hSw])
      (try simp only [gd0])
      (try simp only [gd9])
      (try simp only [hbo])
      (try simp only [hr2])
      (try simp only [hr3])
      try with_reducible rfl
    intro hHeld
    try simp only [Act.put, List.setIfInBounds_toArray, List.set_cons_zero, List.set_cons_succ]
    refine wpAnyR_step 10 rfl (by kernel_rfl) (fun K hK => ?_)
    go_simp
    go_at_call 130
    refine (HF.out _).mono ?_
    rintro e w3 ⟨rfl, hb3⟩
    have HB' := Lib.hid (HB.out.trans (hb3.mono HB.out.size))
    clear HB hb3
    have HB := HB'
    clear HB'
    go_wp2_with fail
    refine hK.out _ _ (HEL.out _ HB.out) (fun hHeld => ?_)
    clear hK K
    try simp only [Act.put, List.setIfInBounds_toArray, List.set_cons_zero, List.set_cons_succ]
    refine wpAnyR_step 13 rfl (by kernel_rfl) (fun K hK => ?_)
    go_simp
    go_at_call 129
    refine (HU.out _).mono ?_
    rintro e w4 ⟨rfl, rfl⟩
    go_wp2_with fail
    refine hK.out _ _ (HEL.out _ HB.out) (fun hHeld => ?_)
    clear hK K
    try simp only [Act.put, List.setIfInBounds_toArray, List.set_cons_zero, List.set_cons_succ]
    refine wpAnyR_take 14 rfl (by kernel_rfl) (by kernel_rfl) (by kernel_rfl) (by kernel_rfl) (fun _ _ _ h => h) (by rfl) (v := ?_) ?_ (by assumption) ?_
    rotate_left
    focus
      intro wS hSw
      (try dsimp only at hSw)
      go_simp
      (try simp only [hSw])
      (try simp only [gd0])
      (try simp only [gd9])
      (try simp only [hbo])
      (try simp only [hr2])
      (try simp only [hr3])
      try with_reducible rfl
    intro hHeld
    try simp only [Act.put, List.setIfInBounds_toArray, List.set_cons_zero, List.set_cons_succ]
    refine wpAnyR_take 15 rfl (by kernel_rfl) (by kernel_rfl) (by kernel_rfl) (by kernel_rfl) (fun _ _ _ h => h) (by rfl) (v := ?_) ?_ (by assumption) ?_
    rotate_left
    focus
      intro wS hSw
      (try dsimp only at hSw)
      go_simp
      (try simp only [hSw])
      (try simp only [gd0])
      (try simp only [gd9])
      (try simp only [hbo])
      (try simp only [hr2])
      (try simp only [hr3])
      try with_reducible rfl
    intro hHeld
    try simp only [Act.put, List.setIfInBounds_toArray, List.set_cons_zero, List.set_cons_succ]
    refine wpAnyR_take 16 rfl (by kernel_rfl) (by kernel_rfl) (by kernel_rfl) (by kernel_rfl) (fun _ _ _ h => h) (by rfl) (v := ?_) ?_ (by assumption) ?_
    rotate_left
    focus
      intro wS hSw
      (try dsimp only at hSw)
      go_simp
      (try simp only [hSw])
      (try simp only [gd0])
      (try simp only [gd9])
      (try simp only [hbo])
      (try simp only [hr2])
      (try simp only [hr3])
      try with_reducible rfl
    intro hHeld
    try simp only [Act.put, List.setIfInBounds_toArray, List.set_cons_zero, List.set_cons_succ]
    refine wpAnyR_take 17 rfl (by kernel_rfl) (by kernel_rfl) (by kernel_rfl) (by kernel_rfl) (fun _ _ _ h => h) (by rfl) (v := ?_) ?_ (by assumption) ?_
    rotate_left
    focus
      intro wS hSw
      (try dsimp only at hSw)
      go_simp
      (try simp only [hSw])
      (try simp only [gd0])
      (try simp only [gd9])
      (try simp only [hbo])
      (try simp only [hr2])
      (try simp only [hr3])
      try with_reducible rfl
    intro hHeld
    try simp only [Act.put, List.setIfInBounds_toArray, List.set_cons_zero, List.set_cons_succ]
    refine wpAnyR_skip 18 rfl (by kernel_rfl) (by kernel_rfl) (by kernel_rfl) (by kernel_rfl) (fun _ _ _ h => h) (by rfl) (by assumption) ?_
    intro hHeld
    try simp only [Act.put, List.setIfInBounds_toArray, List.set_cons_zero, List.set_cons_succ]
    refine wpAnyR_skip 19 rfl (by kernel_rfl) (by kernel_rfl) (by kernel_rfl) (by kernel_rfl) (fun _ _ _ h => h) (by rfl) (by assumption) ?_
    intro hHeld
    try simp only [Act.put, List.setIfInBounds_toArray, List.set_cons_zero, List.set_cons_succ]
    refine wpAnyR_take 20 rfl (by kernel_rfl) (by kernel_rfl) (by kernel_rfl) (by kernel_rfl) (fun _ _ _ h => h) (by rfl) (v := ?_) ?_ (by assumption) ?_
    rotate_left
    focus
      intro wS hSw
      (try dsimp only at hSw)
      go_simp
      (try simp only [hSw])
      (try simp only [gd0])
      (try simp only [gd9])
      (try simp only [hbo])
      (try simp only [hr2])
      (try simp only [hr3])
      try with_reducible rfl
    intro hHeld
    try simp only [Act.put, List.setIfInBounds_toArray, List.set_cons_zero, List.set_cons_succ]
    refine wpAnyR_take 21 rfl (by kernel_rfl) (by kernel_rfl) (by kernel_rfl) (by kernel_rfl) (fun _ _ _ h => h) (by rfl) (v := ?_) ?_ (by assumption) ?_
    rotate_left
    focus
      intro wS hSw
      (try dsimp only at hSw)
      go_simp
      (try simp only [hSw])
      (try simp only [gd0])
      (try simp only [gd9])
      (try simp only [hbo])
      (try simp only [hr2])
      (try simp only [hr3])
      try with_reducible rfl
    intro hHeld
    try simp only [Act.put, List.setIfInBounds_toArray, List.set_cons_zero, List.set_cons_succ]
    refine wpAnyR_skip 22 rfl (by kernel_rfl) (by kernel_rfl) (by kernel_rfl) (by kernel_rfl) (fun _ _ _ h => h) (by rfl) (by assumption) ?_
    intro hHeld
    try simp only [Act.put, List.setIfInBounds_toArray, List.set_cons_zero, List.set_cons_succ]
    refine wpAnyR_skip 23 rfl (by kernel_rfl) (by kernel_rfl) (by kernel_rfl) (by kernel_rfl) (fun _ _ _ h => h) (by rfl) (by assumption) ?_
    intro hHeld
    try simp only [Act.put, List.setIfInBounds_toArray, List.set_cons_zero, List.set_cons_succ]
    refine wpAnyR_take 24 rfl (by kernel_rfl) (by kernel_rfl) (by kernel_rfl) (by kernel_rfl) (fun _ _ _ h => h) (by rfl) (v := ?_) ?_ (by assumption) ?_
    rotate_left
    focus
      intro wS hSw
      (try dsimp only at hSw)
      go_simp
      (try simp only [hSw])
      (try simp only [gd0])
      (try simp only [gd9])
      (try simp only [hbo])
      (try simp only [hr2])
      (try simp only [hr3])
      try with_reducible rfl
    intro hHeld
    try simp only [Act.put, List.setIfInBounds_toArray, List.set_cons_zero, List.set_cons_succ]
    refine wpAnyR_take 25 rfl (by kernel_rfl) (by kernel_rfl) (by kernel_rfl) (by kernel_rfl) (fun _ _ _ h => h) (by rfl) (v := ?_) ?_ (by assumption) ?_
    rotate_left
    focus
      intro wS hSw
      (try dsimp only at hSw)
      go_simp
      (try simp only [hSw])
      (try simp only [gd0])
      (try simp only [gd9])
      (try simp only [hbo])
      (try simp only [hr2])
      (try simp only [hr3])
      try with_reducible rfl
    intro hHeld
    try simp only [Act.put, List.setIfInBounds_toArray, List.set_cons_zero, List.set_cons_succ]
    refine wpAnyR_skip 26 rfl (by kernel_rfl) (by kernel_rfl) (by kernel_rfl) (by kernel_rfl) (fun _ _ _ h => h) (by rfl) (by assumption) ?_
    intro hHeld
    try simp only [Act.put, List.setIfInBounds_toArray, List.set_cons_zero, List.set_cons_succ]
    refine wpAnyR_skip 27 rfl (by kernel_rfl) (by kernel_rfl) (by kernel_rfl) (by kernel_rfl) (fun _ _ _ h => h) (by rfl) (by assumption) ?_
    intro hHeld
    try simp only [Act.put, List.setIfInBounds_toArray, List.set_cons_zero, List.set_cons_succ]
    refine wpAnyR_take 28 rfl (by kernel_rfl) (by kernel_rfl) (by kernel_rfl) (by kernel_rfl) (fun _ _ _ h => h) (by rfl) (v := ?_) ?_ (by assumption) ?_
    rotate_left
    focus
      intro wS hSw
      (try dsimp only at hSw)
      go_simp
      (try simp only [hSw])
      (try simp only [gd0])
      (try simp only [gd9])
      (try simp only [hbo])
      (try simp only [hr2])
      (try simp only [hr3])
      try with_reducible rfl
    intro hHeld
    try simp only [Act.put, List.setIfInBounds_toArray, List.set_cons_zero, List.set_cons_succ]
    refine wpAnyR_take 29 rfl (by kernel_rfl) (by kernel_rfl) (by kernel_rfl) (by kernel_rfl) (fun _ _ _ h => h) (by rfl) (v := ?_) ?_ (by assumption) ?_
    rotate_left
    focus
      intro wS hSw
      (try dsimp only at hSw)
      go_simp
      (try simp only [hSw])
      (try simp only [gd0])
      (try simp only [gd9])
      (try simp only [hbo])
      (try simp only [hr2])
      (try simp only [hr3])
      try with_reducible rfl
    intro hHeld
    try simp only [Act.put, List.setIfInBounds_toArray, List.set_cons_zero, List.set_cons_succ]
    refine wpAnyR_done (by kernel_rfl) ?_
    refine NoPanic.normal ?_
    go_wp2_with fail
    go_ret
    exact ⟨⟨_, rfl, HR.out⟩, HBW.out _ HB.out⟩
  cases B3
  · go_enter Tryz.func88, Tryz.ntmps88
    go_upto_region 1 with fail
    rw [HW1.out]
    refine wp_region_heldR (fun W => W.cell? ⟨w.heap.size, 0, none⟩ = some (.int .i64 k) ∧ W.cell? ⟨w.heap.size, 1, none⟩ = some (.int .i64 n) ∧ W.cell? ⟨w.heap.size, 2, none⟩ = some (.slice A2 m2 c2') ∧ W.cell? ⟨w.heap.size, 3, none⟩ = some (.slice A3 L3 c3') ∧ W.cell? ⟨w.heap.size, 4, none⟩ = some (.slice A4 L4 c4')) 1000 (by kernel_rfl) (HEL.out _ HB.out) (fun hHeld => ?_)
    refine wpAnyR_take 0 rfl (by kernel_rfl) (by kernel_rfl) (by kernel_rfl) (by kernel_rfl) (fun _ _ _ h => h) (by rfl) (v := ?_) ?_ (by assumption) ?_
    rotate_left
    focus
      intro wS hSw
      (try dsimp only at hSw)
      go_simp
      (try simp only [hSw])
      (try simp only [gd0])
      (try simp only [gd9])
      (try simp only [hbo])
      (try simp only [hr2])
      (try simp only [hr3])
      try with_reducible rfl
    intro hHeld
    try simp only [Act.put, List.setIfInBounds_toArray, List.set_cons_zero, List.set_cons_succ]
    refine wpAnyR_take 1 rfl (by kernel_rfl) (by kernel_rfl) (by kernel_rfl) (by kernel_rfl) (fun _ _ _ h => h) (by rfl) (v := ?_) ?_ (by assumption) ?_
    rotate_left
    focus
      intro wS hSw
      (try dsimp only at hSw)
      go_simp
      (try simp only [hSw])
      (try simp only [gd0])
      (try simp only [gd9])
      (try simp only [hbo])
      (try simp only [hr2])
      (try simp only [hr3])
      try with_reducible rfl
    intro hHeld
    try simp only [Act.put, List.setIfInBounds_toArray, List.set_cons_zero, List.set_cons_succ]
    refine wpAnyR_take 2 rfl (by kernel_rfl) (by kernel_rfl) (by kernel_rfl) (by kernel_rfl) (fun _ _ _ h => h) (by rfl) (v := ?_) ?_ (by assumption) ?_
    rotate_left
    focus
      intro wS hSw
      (try dsimp only at hSw)
      go_simp
      (try simp only [hSw])
      (try simp only [gd0])
      (try simp only [gd9])
      (try simp only [hbo])
      (try simp only [hr2])
      (try simp only [hr3])
      try with_reducible rfl
    intro hHeld
    try simp only [Act.put, List.setIfInBounds_toArray, List.set_cons_zero, List.set_cons_succ]
    refine wpAnyR_take 3 rfl (by kernel_rfl) (by kernel_rfl) (by kernel_rfl) (by kernel_rfl) (fun _ _ _ h => h) (by rfl) (v := ?_) ?_ (by assumption) ?_
    rotate_left
    focus
      intro wS hSw
      (try dsimp only at hSw)
      go_simp
      (try simp only [hSw])
      (try simp only [gd0])
      (try simp only [gd9])
      (try simp only [hbo])
      (try simp only [hr2])
      (try simp only [hr3])
      try with_reducible rfl
    intro hHeld
    try simp only [Act.put, List.setIfInBounds_toArray, List.set_cons_zero, List.set_cons_succ]
    refine wpAnyR_take 4 rfl (by kernel_rfl) (by kernel_rfl) (by kernel_rfl) (by kernel_rfl) (fun _ _ _ h => h) (by rfl) (v := ?_) ?_ (by assumption) ?_
    rotate_left
    focus
      intro wS hSw
      (try dsimp only at hSw)
      go_simp
      (try simp only [hSw])
      (try simp only [gd0])
      (try simp only [gd9])
      (try simp only [hbo])
      (try simp only [hr2])
      (try simp only [hr3])
      try with_reducible rfl
    intro hHeld
    try simp only [Act.put, List.setIfInBounds_toArray, List.set_cons_zero, List.set_cons_succ]
    refine wpAnyR_take 5 rfl (by kernel_rfl) (by kernel_rfl) (by kernel_rfl) (by kernel_rfl) (fun _ _ _ h => h) (by rfl) (v := ?_) ?_ (by assumption) ?_
    rotate_left
    focus
      intro wS hSw
      (try dsimp only at hSw)
      go_simp
      (try simp only [hSw])
      (try simp only [gd0])
      (try simp only [gd9])
      (try simp only [hbo])
      (try simp only [hr2])
      (try simp only [hr3])
      try with_reducible rfl
    intro hHeld
    try simp only [Act.put, List.setIfInBounds_toArray, List.set_cons_zero, List.set_cons_succ]
    refine wpAnyR_take 6 rfl (by kernel_rfl) (by kernel_rfl) (by kernel_rfl) (by kernel_rfl) (fun _ _ _ h => h) (by rfl) (v := ?_) ?_ (by assumption) ?_
    rotate_left
    focus
      intro wS hSw
      (try dsimp only at hSw)
      go_simp
      (try simp only [hSw])
      (try simp only [gd0])
      (try simp only [gd9])
      (try simp only [hbo])
      (try simp only [hr2])
      (try simp only [hr3])
      try with_reducible rfl
    intro hHeld
    try simp only [Act.put, List.setIfInBounds_toArray, List.set_cons_zero, List.set_cons_succ]
    refine wpAnyR_take 7 rfl (by kernel_rfl) (by kernel_rfl) (by kernel_rfl) (by kernel_rfl) (fun _ _ _ h => h) (by rfl) (v := ?_) ?_ (by assumption) ?_
    rotate_left
    focus
      intro wS hSw
      (try dsimp only at hSw)
      go_simp
      (try simp only [hSw])
      (try simp only [gd0])
      (try simp only [gd9])
      (try simp only [hbo])
      (try simp only [hr2])
      (try simp only [hr3])
      try with_reducible rfl
    intro hHeld
    try simp only [Act.put, List.setIfInBounds_toArray, List.set_cons_zero, List.set_cons_succ]
    refine wpAnyR_take 8 rfl (by kernel_rfl) (by kernel_rfl) (by kernel_rfl) (by kernel_rfl) (fun _ _ _ h => h) (by rfl) (v := ?_) ?_ (by assumption) ?_
    rotate_left
    focus
      intro wS hSw
      (try dsimp only at hSw)
      go_simp
      (try simp only [hSw])
      (try simp only [gd0])
      (try simp only [gd9])
      (try simp only [hbo])
      (try simp only [hr2])
      (try simp only [hr3])
      try with_reducible rfl
    intro hHeld
    try simp only [Act.put, List.setIfInBounds_toArray, List.set_cons_zero, List.set_cons_succ]
    refine wpAnyR_take 9 rfl (by kernel_rfl) (by kernel_rfl) (by kernel_rfl) (by kernel_rfl) (fun _ _ _ h => h) (by rfl) (v := ?_) ?_ (by assumption) ?_
    rotate_left
    focus
      intro wS hSw
      (try dsimp only at hSw)
      go_simp
      (try simp only [hSw])
      (try simp only [gd0])
      (try simp only [gd9])
      (try simp only [hbo])
      (try simp only [hr2])
      (try simp only [hr3])
      try with_reducible rfl
    intro hHeld
    try simp only [Act.put, List.setIfInBounds_toArray, List.set_cons_zero, List.set_cons_succ]
    refine wpAnyR_take 11 rfl (by kernel_rfl) (by kernel_rfl) (by kernel_rfl) (by kernel_rfl) (fun _ _ _ h => h) (by rfl) (v := ?_) ?_ (by assumption) ?_
    rotate_left
    focus
      intro wS hSw
      (try dsimp only at hSw)
      go_simp
      (try simp only [hSw])
      (try simp only [gd0])
      (try simp only [gd9])
      (try simp only [hbo])
      (try simp only [hr2])
      (try simp only [hr3])
      try with_reducible rfl
    intro hHeld
    try simp only [Act.put, List.setIfInBounds_toArray, List.set_cons_zero, List.set_cons_succ]
    refine wpAnyR_take 12 rfl (by kernel_rfl) (by kernel_rfl) (by kernel_rfl) (by kernel_rfl) (fun _ _ _ h => h) (by rfl) (v := ?_) ?_ (by assumption) ?_
    rotate_left
    focus
      intro wS hSw
      (try dsimp only at hSw)
      go_simp
      (try simp only [hSw])
      (try simp only [gd0])
      (try simp only [gd9])
      (try simp only [hbo])
      (try simp only [hr2])
      (try simp only [hr3])
      try with_reducible rfl
    intro hHeld
    try simp only [Act.put, List.setIfInBounds_toArray, List.set_cons_zero, List.set_cons_succ]
    refine wpAnyR_step 10 rfl (by kernel_rfl) (fun K hK => ?_)
    go_simp
    go_at_call 130
    refine (HF.out _).mono ?_
    rintro e w3 ⟨rfl, hb3⟩
    have HB' := Lib.hid (HB.out.trans (hb3.mono HB.out.size))
    clear HB hb3
    have HB := HB'
    clear HB'
    go_wp2_with fail
    refine hK.out _ _ (HEL.out _ HB.out) (fun hHeld => ?_)
    clear hK K
    try simp only [Act.put, List.setIfInBounds_toArray, List.set_cons_zero, List.set_cons_succ]
    refine wpAnyR_step 13 rfl (by kernel_rfl) (fun K hK => ?_)
    go_simp
    go_at_call 129
    refine (HU.out _).mono ?_
    rintro e w4 ⟨rfl, rfl⟩
    go_wp2_with fail
    refine hK.out _ _ (HEL.out _ HB.out) (fun hHeld => ?_)
    clear hK K
    try simp only [Act.put, List.setIfInBounds_toArray, List.set_cons_zero, List.set_cons_succ]
    refine wpAnyR_take 14 rfl (by kernel_rfl) (by kernel_rfl) (by kernel_rfl) (by kernel_rfl) (fun _ _ _ h => h) (by rfl) (v := ?_) ?_ (by assumption) ?_
    rotate_left
    focus
      intro wS hSw
      (try dsimp only at hSw)
      go_simp
      (try simp only [hSw])
      (try simp only [gd0])
      (try simp only [gd9])
      (try simp only [hbo])
      (try simp only [hr2])
      (try simp only [hr3])
      try with_reducible rfl
    intro hHeld
    try simp only [Act.put, List.setIfInBounds_toArray, List.set_cons_zero, List.set_cons_succ]
    refine wpAnyR_take 15 rfl (by kernel_rfl) (by kernel_rfl) (by kernel_rfl) (by kernel_rfl) (fun _ _ _ h => h) (by rfl) (v := ?_) ?_ (by assumption) ?_
    rotate_left
    focus
      intro wS hSw
      (try dsimp only at hSw)
      go_simp
      (try simp only [hSw])
      (try simp only [gd0])
      (try simp only [gd9])
      (try simp only [hbo])
      (try simp only [hr2])
      (try simp only [hr3])
      try with_reducible rfl
    intro hHeld
    try simp only [Act.put, List.setIfInBounds_toArray, List.set_cons_zero, List.set_cons_succ]
    refine wpAnyR_take 16 rfl (by kernel_rfl) (by kernel_rfl) (by kernel_rfl) (by kernel_rfl) (fun _ _ _ h => h) (by rfl) (v := ?_) ?_ (by assumption) ?_
    rotate_left
    focus
      intro wS hSw
      (try dsimp only at hSw)
      go_simp
      (try simp only [hSw])
      (try simp only [gd0])
      (try simp only [gd9])
      (try simp only [hbo])
      (try simp only [hr2])
      (try simp only [hr3])
      try with_reducible rfl
    intro hHeld
    try simp only [Act.put, List.setIfInBounds_toArray, List.set_cons_zero, List.set_cons_succ]
    refine wpAnyR_take 17 rfl (by kernel_rfl) (by kernel_rfl) (by kernel_rfl) (by kernel_rfl) (fun _ _ _ h => h) (by rfl) (v := ?_) ?_ (by assumption) ?_
    rotate_left
    focus
      intro wS hSw
      (try dsimp only at hSw)
      go_simp
      (try simp only [hSw])
      (try simp only [gd0])
      (try simp only [gd9])
      (try simp only [hbo])
      (try simp only [hr2])
      (try simp only [hr3])
      try with_reducible rfl
    intro hHeld
    try simp only [Act.put, List.setIfInBounds_toArray, List.set_cons_zero, List.set_cons_succ]
    refine wpAnyR_take 18 rfl (by kernel_rfl) (by kernel_rfl) (by kernel_rfl) (by kernel_rfl) (fun _ _ _ h => h) (by rfl) (v := ?_) ?_ (by assumption) ?_
    rotate_left
    focus
      intro wS hSw
      (try dsimp only at hSw)
      go_simp
      (try simp only [hSw])
      (try simp only [gd0])
      (try simp only [gd9])
      (try simp only [hbo])
      (try simp only [hr2])
      (try simp only [hr3])
      try with_reducible rfl
    intro hHeld
    try simp only [Act.put, List.setIfInBounds_toArray, List.set_cons_zero, List.set_cons_succ]
    refine wpAnyR_step 19 rfl (by kernel_rfl) (fun K hK => ?_)
    go_simp
    go_at_call 131
    refine (HN.out _).mono ?_
    rintro e w3 ⟨rfl, hb3⟩
    have HB' := Lib.hid (HB.out.trans (hb3.mono HB.out.size))
    clear HB hb3
    have HB := HB'
    clear HB'
    go_wp2_with fail
    refine hK.out _ _ (HEL.out _ HB.out) (fun hHeld => ?_)
    clear hK K
    try simp only [Act.put, List.setIfInBounds_toArray, List.set_cons_zero, List.set_cons_succ]
    refine wpAnyR_take 20 rfl (by kernel_rfl) (by kernel_rfl) (by kernel_rfl) (by kernel_rfl) (fun _ _ _ h => h) (by rfl) (v := ?_) ?_ (by assumption) ?_
    rotate_left
    focus
      intro wS hSw
      (try dsimp only at hSw)
      go_simp
      (try simp only [hSw])
      (try simp only [gd0])
      (try simp only [gd9])
      (try simp only [hbo])
      (try simp only [hr2])
      (try simp only [hr3])
      try with_reducible rfl
    intro hHeld
    try simp only [Act.put, List.setIfInBounds_toArray, List.set_cons_zero, List.set_cons_succ]
    refine wpAnyR_take 21 rfl (by kernel_rfl) (by kernel_rfl) (by kernel_rfl) (by kernel_rfl) (fun _ _ _ h => h) (by rfl) (v := ?_) ?_ (by assumption) ?_
    rotate_left
    focus
      intro wS hSw
      (try dsimp only at hSw)
      go_simp
      (try simp only [hSw])
      (try simp only [gd0])
      (try simp only [gd9])
      (try simp only [hbo])
      (try simp only [hr2])
      (try simp only [hr3])
      try with_reducible rfl
    intro hHeld
    try simp only [Act.put, List.setIfInBounds_toArray, List.set_cons_zero, List.set_cons_succ]
    refine wpAnyR_skip 22 rfl (by kernel_rfl) (by kernel_rfl) (by kernel_rfl) (by kernel_rfl) (fun _ _ _ h => h) (by rfl) (by assumption) ?_
    intro hHeld
    try simp only [Act.put, List.setIfInBounds_toArray, List.set_cons_zero, List.set_cons_succ]
    refine wpAnyR_skip 23 rfl (by kernel_rfl) (by kernel_rfl) (by kernel_rfl) (by kernel_rfl) (fun _ _ _ h => h) (by rfl) (by assumption) ?_
    intro hHeld
    try simp only [Act.put, List.setIfInBounds_toArray, List.set_cons_zero, List.set_cons_succ]
    refine wpAnyR_take 24 rfl (by kernel_rfl) (by kernel_rfl) (by kernel_rfl) (by kernel_rfl) (fun _ _ _ h => h) (by rfl) (v := ?_) ?_ (by assumption) ?_
    rotate_left
    focus
      intro wS hSw
      (try dsimp only at hSw)
      go_simp
      (try simp only [hSw])
      (try simp only [gd0])
      (try simp only [gd9])
      (try simp only [hbo])
      (try simp only [hr2])
      (try simp only [hr3])
      try with_reducible rfl
    intro hHeld
    try simp only [Act.put, List.setIfInBounds_toArray, List.set_cons_zero, List.set_cons_succ]
    refine wpAnyR_take 25 rfl (by kernel_rfl) (by kernel_rfl) (by kernel_rfl) (by kernel_rfl) (fun _ _ _ h => h) (by rfl) (v := ?_) ?_ (by assumption) ?_
    rotate_left
    focus
      intro wS hSw
      (try dsimp only at hSw)
      go_simp
      (try simp only [hSw])
      (try simp only [gd0])
      (try simp only [gd9])
      (try simp only [hbo])
      (try simp only [hr2])
      (try simp only [hr3])
      try with_reducible rfl
    intro hHeld
    try simp only [Act.put, List.setIfInBounds_toArray, List.set_cons_zero, List.set_cons_succ]
    refine wpAnyR_skip 26 rfl (by kernel_rfl) (by kernel_rfl) (by kernel_rfl) (by kernel_rfl) (fun _ _ _ h => h) (by rfl) (by assumption) ?_
    intro hHeld
    try simp only [Act.put, List.setIfInBounds_toArray, List.set_cons_zero, List.set_cons_succ]
    refine wpAnyR_skip 27 rfl (by kernel_rfl) (by kernel_rfl) (by kernel_rfl) (by kernel_rfl) (fun _ _ _ h => h) (by rfl) (by assumption) ?_
    intro hHeld
    try simp only [Act.put, List.setIfInBounds_toArray, List.set_cons_zero, List.set_cons_succ]
    refine wpAnyR_take 28 rfl (by kernel_rfl) (by kernel_rfl) (by kernel_rfl) (by kernel_rfl) (fun _ _ _ h => h) (by rfl) (v := ?_) ?_ (by assumption) ?_
    rotate_left
    focus
      intro wS hSw
      (try dsimp only at hSw)
      go_simp
      (try simp only [hSw])
      (try simp only [gd0])
      (try simp only [gd9])
      (try simp only [hbo])
      (try simp only [hr2])
      (try simp only [hr3])
      try with_reducible rfl
    intro hHeld
    try simp only [Act.put, List.setIfInBounds_toArray, List.set_cons_zero, List.set_cons_succ]
    refine wpAnyR_take 29 rfl (by kernel_rfl) (by kernel_rfl) (by kernel_rfl) (by kernel_rfl) (fun _ _ _ h => h) (by rfl) (v := ?_) ?_ (by assumption) ?_
    rotate_left
    focus
      intro wS hSw
      (try dsimp only at hSw)
      go_simp
      (try simp only [hSw])
      (try simp only [gd0])
      (try simp only [gd9])
      (try simp only [hbo])
      (try simp only [hr2])
      (try simp only [hr3])
      try with_reducible rfl
    intro hHeld
    try simp only [Act.put, List.setIfInBounds_toArray, List.set_cons_zero, List.set_cons_succ]
    refine wpAnyR_done (by kernel_rfl) ?_
    refine NoPanic.normal ?_
    go_wp2_with fail
    go_ret
    exact ⟨⟨_, rfl, HR.out⟩, HBW.out _ HB.out⟩
  cases B4
  · go_enter Tryz.func88, Tryz.ntmps88
    go_upto_region 1 with fail
    rw [HW1.out]
    refine wp_region_heldR (fun W => W.cell? ⟨w.heap.size, 0, none⟩ = some (.int .i64 k) ∧ W.cell? ⟨w.heap.size, 1, none⟩ = some (.int .i64 n) ∧ W.cell? ⟨w.heap.size, 2, none⟩ = some (.slice A2 m2 c2') ∧ W.cell? ⟨w.heap.size, 3, none⟩ = some (.slice A3 L3 c3') ∧ W.cell? ⟨w.heap.size, 4, none⟩ = some (.slice A4 L4 c4')) 1000 (by kernel_rfl) (HEL.out _ HB.out) (fun hHeld => ?_)
    refine wpAnyR_take 0 rfl (by kernel_rfl) (by kernel_rfl) (by kernel_rfl) (by kernel_rfl) (fun _ _ _ h => h) (by rfl) (v := ?_) ?_ (by assumption) ?_
    rotate_left
    focus
      intro wS hSw
      (try dsimp only at hSw)
      go_simp
      (try simp only [hSw])
      (try simp only [gd0])
      (try simp only [gd9])
      (try simp only [hbo])
      (try simp only [hr2])
      (try simp only [hr3])
      try with_reducible rfl
    intro hHeld
    try simp only [Act.put, List.setIfInBounds_toArray, List.set_cons_zero, List.set_cons_succ]
    refine wpAnyR_take 1 rfl (by kernel_rfl) (by kernel_rfl) (by kernel_rfl) (by kernel_rfl) (fun _ _ _ h => h) (by rfl) (v := ?_) ?_ (by assumption) ?_
    rotate_left
    focus
      intro wS hSw
      (try dsimp only at hSw)
      go_simp
      (try simp only [hSw])
      (try simp only [gd0])
      (try simp only [gd9])
      (try simp only [hbo])
      (try simp only [hr2])
      (try simp only [hr3])
      try with_reducible rfl
    intro hHeld
    try simp only [Act.put, List.setIfInBounds_toArray, List.set_cons_zero, List.set_cons_succ]
    refine wpAnyR_take 2 rfl (by kernel_rfl) (by kernel_rfl) (by kernel_rfl) (by kernel_rfl) (fun _ _ _ h => h) (by rfl) (v := ?_) ?_ (by assumption) ?_
    rotate_left
    focus
      intro wS hSw
      (try dsimp only at hSw)
      go_simp
      (try simp only [hSw])
      (try simp only [gd0])
      (try simp only [gd9])
      (try simp only [hbo])
      (try simp only [hr2])
      (try simp only [hr3])
      try with_reducible rfl
    intro hHeld
    try simp only [Act.put, List.setIfInBounds_toArray, List.set_cons_zero, List.set_cons_succ]
    refine wpAnyR_take 3 rfl (by kernel_rfl) (by kernel_rfl) (by kernel_rfl) (by kernel_rfl) (fun _ _ _ h => h) (by rfl) (v := ?_) ?_ (by assumption) ?_
    rotate_left
    focus
      intro wS hSw
      (try dsimp only at hSw)
      go_simp
      (try simp only [hSw])
      (try simp only [gd0])
      (try simp only [gd9])
      (try simp only [hbo])
      (try simp only [hr2])
      (try simp only [hr3])
      try with_reducible rfl
    intro hHeld
    try simp only [Act.put, List.setIfInBounds_toArray, List.set_cons_zero, List.set_cons_succ]
    refine wpAnyR_take 4 rfl (by kernel_rfl) (by kernel_rfl) (by kernel_rfl) (by kernel_rfl) (fun _ _ _ h => h) (by rfl) (v := ?_) ?_ (by assumption) ?_
    rotate_left
    focus
      intro wS hSw
      (try dsimp only at hSw)
      go_simp
      (try simp only [hSw])
      (try simp only [gd0])
      (try simp only [gd9])
      (try simp only [hbo])
      (try simp only [hr2])
      (try simp only [hr3])
      try with_reducible rfl
    intro hHeld
    try simp only [Act.put, List.setIfInBounds_toArray, List.set_cons_zero, List.set_cons_succ]
    refine wpAnyR_take 5 rfl (by kernel_rfl) (by kernel_rfl) (by kernel_rfl) (by kernel_rfl) (fun _ _ _ h => h) (by rfl) (v := ?_) ?_ (by assumption) ?_
    rotate_left
    focus
      intro wS hSw
      (try dsimp only at hSw)
      go_simp
      (try simp only [hSw])
      (try simp only [gd0])
      (try simp only [gd9])
      (try simp only [hbo])
      (try simp only [hr2])
      (try simp only [hr3])
      try with_reducible rfl
    intro hHeld
    try simp only [Act.put, List.setIfInBounds_toArray, List.set_cons_zero, List.set_cons_succ]
    refine wpAnyR_take 6 rfl (by kernel_rfl) (by kernel_rfl) (by kernel_rfl) (by kernel_rfl) (fun _ _ _ h => h) (by rfl) (v := ?_) ?_ (by assumption) ?_
    rotate_left
    focus
      intro wS hSw
      (try dsimp only at hSw)
      go_simp
      (try simp only [hSw])
      (try simp only [gd0])
      (try simp only [gd9])
      (try simp only [hbo])
      (try simp only [hr2])
      (try simp only [hr3])
      try with_reducible rfl
    intro hHeld
    try simp only [Act.put, List.setIfInBounds_toArray, List.set_cons_zero, List.set_cons_succ]
    refine wpAnyR_take 7 rfl (by kernel_rfl) (by kernel_rfl) (by kernel_rfl) (by kernel_rfl) (fun _ _ _ h => h) (by rfl) (v := ?_) ?_ (by assumption) ?_
    rotate_left
    focus
      intro wS hSw
      (try dsimp only at hSw)
      go_simp
      (try simp only [hSw])
      (try simp only [gd0])
      (try simp only [gd9])
      (try simp only [hbo])
      (try simp only [hr2])
      (try simp only [hr3])
      try with_reducible rfl
    intro hHeld
    try simp only [Act.put, List.setIfInBounds_toArray, List.set_cons_zero, List.set_cons_succ]
    refine wpAnyR_take 8 rfl (by kernel_rfl) (by kernel_rfl) (by kernel_rfl) (by kernel_rfl) (fun _ _ _ h => h) (by rfl) (v := ?_) ?_ (by assumption) ?_
    rotate_left
    focus
      intro wS hSw
      (try dsimp only at hSw)
      go_simp
      (try simp only [hSw])
      (try simp only [gd0])
      (try simp only [gd9])
      (try simp only [hbo])
      (try simp only [hr2])
      (try simp only [hr3])
      try with_reducible rfl
    intro hHeld
    try simp only [Act.put, List.setIfInBounds_toArray, List.set_cons_zero, List.set_cons_succ]
    refine wpAnyR_take 9 rfl (by kernel_rfl) (by kernel_rfl) (by kernel_rfl) (by kernel_rfl) (fun _ _ _ h => h) (by rfl) (v := ?_) ?_ (by assumption) ?_
    rotate_left
    focus
      intro wS hSw
      (try dsimp only at hSw)
      go_simp
      (try simp only [hSw])
      (try simp only [gd0])
      (try simp only [gd9])
      (try simp only [hbo])
      (try simp only [hr2])
      (try simp only [hr3])
      try with_reducible rfl
    intro hHeld
    try simp only [Act.put, List.setIfInBounds_toArray, List.set_cons_zero, List.set_cons_succ]
    refine wpAnyR_take 11 rfl (by kernel_rfl) (by kernel_rfl) (by kernel_rfl) (by kernel_rfl) (fun _ _ _ h => h) (by rfl) (v := ?_) ?_ (by assumption) ?_
    rotate_left
    focus
      intro wS hSw
      (try dsimp only at hSw)
      go_simp
      (try simp only [hSw])
      (try simp only [gd0])
      (try simp only [gd9])
      (try simp only [hbo])
      (try simp only [hr2])
      (try simp only [hr3])
      try with_reducible rfl
    intro hHeld
    try simp only [Act.put, List.setIfInBounds_toArray, List.set_cons_zero, List.set_cons_succ]
    refine wpAnyR_take 12 rfl (by kernel_rfl) (by kernel_rfl) (by kernel_rfl) (by kernel_rfl) (fun _ _ _ h => h) (by rfl) (v := ?_) ?_ (by assumption) ?_
    rotate_left
    focus
      intro wS hSw
      (try dsimp only at hSw)
      go_simp
      (try simp only [hSw])
      (try simp only [gd0])
      (try simp only [gd9])
      (try simp only [hbo])
      (try simp only [hr2])
      (try simp only [hr3])
      try with_reducible rfl
    intro hHeld
    try simp only [Act.put, List.setIfInBounds_toArray, List.set_cons_zero, List.set_cons_succ]
    refine wpAnyR_step 10 rfl (by kernel_rfl) (fun K hK => ?_)
    go_simp
    go_at_call 130
    refine (HF.out _).mono ?_
    rintro e w3 ⟨rfl, hb3⟩
    have HB' := Lib.hid (HB.out.trans (hb3.mono HB.out.size))
    clear HB hb3
    have HB := HB'
    clear HB'
    go_wp2_with fail
    refine hK.out _ _ (HEL.out _ HB.out) (fun hHeld => ?_)
    clear hK K
    try simp only [Act.put, List.setIfInBounds_toArray, List.set_cons_zero, List.set_cons_succ]
    refine wpAnyR_step 13 rfl (by kernel_rfl) (fun K hK => ?_)
    go_simp
    go_at_call 129
    refine (HU.out _).mono ?_
    rintro e w4 ⟨rfl, rfl⟩
    go_wp2_with fail
    refine hK.out _ _ (HEL.out _ HB.out) (fun hHeld => ?_)
    clear hK K
    try simp only [Act.put, List.setIfInBounds_toArray, List.set_cons_zero, List.set_cons_succ]
    refine wpAnyR_take 14 rfl (by kernel_rfl) (by kernel_rfl) (by kernel_rfl) (by kernel_rfl) (fun _ _ _ h => h) (by rfl) (v := ?_) ?_ (by assumption) ?_
    rotate_left
    focus
      intro wS hSw
      (try dsimp only at hSw)
      go_simp
      (try simp only [hSw])
      (try simp only [gd0])
      (try simp only [gd9])
      (try simp only [hbo])
      (try simp only [hr2])
      (try simp only [hr3])
      try with_reducible rfl
    intro hHeld
    try simp only [Act.put, List.setIfInBounds_toArray, List.set_cons_zero, List.set_cons_succ]
    refine wpAnyR_take 15 rfl (by kernel_rfl) (by kernel_rfl) (by kernel_rfl) (by kernel_rfl) (fun _ _ _ h => h) (by rfl) (v := ?_) ?_ (by assumption) ?_
    rotate_left
    focus
      intro wS hSw
      (try dsimp only at hSw)
      go_simp
      (try simp only [hSw])
      (try simp only [gd0])
      (try simp only [gd9])
      (try simp only [hbo])
      (try simp only [hr2])
      (try simp only [hr3])
      try with_reducible rfl
    intro hHeld
    try simp only [Act.put, List.setIfInBounds_toArray, List.set_cons_zero, List.set_cons_succ]
    refine wpAnyR_take 16 rfl (by kernel_rfl) (by kernel_rfl) (by kernel_rfl) (by kernel_rfl) (fun _ _ _ h => h) (by rfl) (v := ?_) ?_ (by assumption) ?_
    rotate_left
    focus
      intro wS hSw
      (try dsimp only at hSw)
      go_simp
      (try simp only [hSw])
      (try simp only [gd0])
      (try simp only [gd9])
      (try simp only [hbo])
      (try simp only [hr2])
      (try simp only [hr3])
      try with_reducible rfl
    intro hHeld
    try simp only [Act.put, List.setIfInBounds_toArray, List.set_cons_zero, List.set_cons_succ]
    refine wpAnyR_take 17 rfl (by kernel_rfl) (by kernel_rfl) (by kernel_rfl) (by kernel_rfl) (fun _ _ _ h => h) (by rfl) (v := ?_) ?_ (by assumption) ?_
    rotate_left
    focus
      intro wS hSw
      (try dsimp only at hSw)
      go_simp
      (try simp only [hSw])
      (try simp only [gd0])
      (try simp only [gd9])
      (try simp only [hbo])
      (try simp only [hr2])
      (try simp only [hr3])
      try with_reducible rfl
    intro hHeld
    try simp only [Act.put, List.setIfInBounds_toArray, List.set_cons_zero, List.set_cons_succ]
    refine wpAnyR_take 18 rfl (by kernel_rfl) (by kernel_rfl) (by kernel_rfl) (by kernel_rfl) (fun _ _ _ h => h) (by rfl) (v := ?_) ?_ (by assumption) ?_
    rotate_left
    focus
      intro wS hSw
      (try dsimp only at hSw)
      go_simp
      (try simp only [hSw])
      (try simp only [gd0])
      (try simp only [gd9])
      (try simp only [hbo])
      (try simp only [hr2])
      (try simp only [hr3])
      try with_reducible rfl
    intro hHeld
    try simp only [Act.put, List.setIfInBounds_toArray, List.set_cons_zero, List.set_cons_succ]
    refine wpAnyR_step 19 rfl (by kernel_rfl) (fun K hK => ?_)
    go_simp
    go_at_call 131
    refine (HN.out _).mono ?_
    rintro e w3 ⟨rfl, hb3⟩
    have HB' := Lib.hid (HB.out.trans (hb3.mono HB.out.size))
    clear HB hb3
    have HB := HB'
    clear HB'
    go_wp2_with fail
    refine hK.out _ _ (HEL.out _ HB.out) (fun hHeld => ?_)
    clear hK K
    try simp only [Act.put, List.setIfInBounds_toArray, List.set_cons_zero, List.set_cons_succ]
    refine wpAnyR_take 20 rfl (by kernel_rfl) (by kernel_rfl) (by kernel_rfl) (by kernel_rfl) (fun _ _ _ h => h) (by rfl) (v := ?_) ?_ (by assumption) ?_
    rotate_left
    focus
      intro wS hSw
      (try dsimp only at hSw)
      go_simp
      (try simp only [hSw])
      (try simp only [gd0])
      (try simp only [gd9])
      (try simp only [hbo])
      (try simp only [hr2])
      (try simp only [hr3])
      try with_reducible rfl
    intro hHeld
    try simp only [Act.put, List.setIfInBounds_toArray, List.set_cons_zero, List.set_cons_succ]
    refine wpAnyR_take 21 rfl (by kernel_rfl) (by kernel_rfl) (by kernel_rfl) (by kernel_rfl) (fun _ _ _ h => h) (by rfl) (v := ?_) ?_ (by assumption) ?_
    rotate_left
    focus
      intro wS hSw
      (try dsimp only at hSw)
      go_simp
      (try simp only [hSw])
      (try simp only [gd0])
      (try simp only [gd9])
      (try simp only [hbo])
      (try simp only [hr2])
      (try simp only [hr3])
      try with_reducible rfl
    intro hHeld
    try simp only [Act.put, List.setIfInBounds_toArray, List.set_cons_zero, List.set_cons_succ]
    refine wpAnyR_take 22 rfl (by kernel_rfl) (by kernel_rfl) (by kernel_rfl) (by kernel_rfl) (fun _ _ _ h => h) (by rfl) (v := ?_) ?_ (by assumption) ?_
    rotate_left
    focus
      intro wS hSw
      (try dsimp only at hSw)
      go_simp
      (try simp only [hSw])
      (try simp only [gd0])
      (try simp only [gd9])
      (try simp only [hbo])
      (try simp only [hr2])
      (try simp only [hr3])
      try with_reducible rfl
    intro hHeld
    try simp only [Act.put, List.setIfInBounds_toArray, List.set_cons_zero, List.set_cons_succ]
    refine wpAnyR_step 23 rfl (by kernel_rfl) (fun K hK => ?_)
    go_simp
    go_at_call 132
    refine (HL.out _ (HBW.out _ HB.out)).mono ?_
    rintro e w3 ⟨rfl, hb3⟩
    have HB' := Lib.hid (HB.out.trans (hb3.mono HB.out.size))
    clear HB hb3
    have HB := HB'
    clear HB'
    go_wp2_with fail
    refine hK.out _ _ (HEL.out _ HB.out) (fun hHeld => ?_)
    clear hK K
    try simp only [Act.put, List.setIfInBounds_toArray, List.set_cons_zero, List.set_cons_succ]
    refine wpAnyR_take 24 rfl (by kernel_rfl) (by kernel_rfl) (by kernel_rfl) (by kernel_rfl) (fun _ _ _ h => h) (by rfl) (v := ?_) ?_ (by assumption) ?_
    rotate_left
    focus
      intro wS hSw
      (try dsimp only at hSw)
      go_simp
      (try simp only [hSw])
      (try simp only [gd0])
      (try simp only [gd9])
      (try simp only [hbo])
      (try simp only [hr2])
      (try simp only [hr3])
      try with_reducible rfl
    intro hHeld
    try simp only [Act.put, List.setIfInBounds_toArray, List.set_cons_zero, List.set_cons_succ]
    refine wpAnyR_take 25 rfl (by kernel_rfl) (by kernel_rfl) (by kernel_rfl) (by kernel_rfl) (fun _ _ _ h => h) (by rfl) (v := ?_) ?_ (by assumption) ?_
    rotate_left
    focus
      intro wS hSw
      (try dsimp only at hSw)
      go_simp
      (try simp only [hSw])
      (try simp only [gd0])
      (try simp only [gd9])
      (try simp only [hbo])
      (try simp only [hr2])
      (try simp only [hr3])
      try with_reducible rfl
    intro hHeld
    try simp only [Act.put, List.setIfInBounds_toArray, List.set_cons_zero, List.set_cons_succ]
    refine wpAnyR_skip 26 rfl (by kernel_rfl) (by kernel_rfl) (by kernel_rfl) (by kernel_rfl) (fun _ _ _ h => h) (by rfl) (by assumption) ?_
    intro hHeld
    try simp only [Act.put, List.setIfInBounds_toArray, List.set_cons_zero, List.set_cons_succ]
    refine wpAnyR_skip 27 rfl (by kernel_rfl) (by kernel_rfl) (by kernel_rfl) (by kernel_rfl) (fun _ _ _ h => h) (by rfl) (by assumption) ?_
    intro hHeld
    try simp only [Act.put, List.setIfInBounds_toArray, List.set_cons_zero, List.set_cons_succ]
    refine wpAnyR_take 28 rfl (by kernel_rfl) (by kernel_rfl) (by kernel_rfl) (by kernel_rfl) (fun _ _ _ h => h) (by rfl) (v := ?_) ?_ (by assumption) ?_
    rotate_left
    focus
      intro wS hSw
      (try dsimp only at hSw)
      go_simp
      (try simp only [hSw])
      (try simp only [gd0])
      (try simp only [gd9])
      (try simp only [hbo])
      (try simp only [hr2])
      (try simp only [hr3])
      try with_reducible rfl
    intro hHeld
    try simp only [Act.put, List.setIfInBounds_toArray, List.set_cons_zero, List.set_cons_succ]
    refine wpAnyR_take 29 rfl (by kernel_rfl) (by kernel_rfl) (by kernel_rfl) (by kernel_rfl) (fun _ _ _ h => h) (by rfl) (v := ?_) ?_ (by assumption) ?_
    rotate_left
    focus
      intro wS hSw
      (try dsimp only at hSw)
      go_simp
      (try simp only [hSw])
      (try simp only [gd0])
      (try simp only [gd9])
      (try simp only [hbo])
      (try simp only [hr2])
      (try simp only [hr3])
      try with_reducible rfl
    intro hHeld
    try simp only [Act.put, List.setIfInBounds_toArray, List.set_cons_zero, List.set_cons_succ]
    refine wpAnyR_done (by kernel_rfl) ?_
    refine NoPanic.normal ?_
    go_wp2_with fail
    go_ret
    exact ⟨⟨_, rfl, HR.out⟩, HBW.out _ HB.out⟩
  go_enter Tryz.func88, Tryz.ntmps88
  go_upto_region 1 with fail
  rw [HW1.out]
  refine wp_region_heldR (fun W => W.cell? ⟨w.heap.size, 0, none⟩ = some (.int .i64 k) ∧ W.cell? ⟨w.heap.size, 1, none⟩ = some (.int .i64 n) ∧ W.cell? ⟨w.heap.size, 2, none⟩ = some (.slice A2 m2 c2') ∧ W.cell? ⟨w.heap.size, 3, none⟩ = some (.slice A3 L3 c3') ∧ W.cell? ⟨w.heap.size, 4, none⟩ = some (.slice A4 L4 c4')) 1000 (by kernel_rfl) (HEL.out _ HB.out) (fun hHeld => ?_)
  refine wpAnyR_take 0 rfl (by kernel_rfl) (by kernel_rfl) (by kernel_rfl) (by kernel_rfl) (fun _ _ _ h => h) (by rfl) (v := ?_) ?_ (by assumption) ?_
  rotate_left
  focus
    intro wS hSw
    (try dsimp only at hSw)
    go_simp
    (try simp only [hSw])
    (try simp only [gd0])
    (try simp only [gd9])
    (try simp only [hbo])
    (try simp only [hr2])
    (try simp only [hr3])
    try with_reducible rfl
  intro hHeld
  try simp only [Act.put, List.setIfInBounds_toArray, List.set_cons_zero, List.set_cons_succ]
  refine wpAnyR_take 1 rfl (by kernel_rfl) (by kernel_rfl) (by kernel_rfl) (by kernel_rfl) (fun _ _ _ h => h) (by rfl) (v := ?_) ?_ (by assumption) ?_
  rotate_left
  focus
    intro wS hSw
    (try dsimp only at hSw)
    go_simp
    (try simp only [hSw])
    (try simp only [gd0])
    (try simp only [gd9])
    (try simp only [hbo])
    (try simp only [hr2])
    (try simp only [hr3])
    try with_reducible rfl
  intro hHeld
  try simp only [Act.put, List.setIfInBounds_toArray, List.set_cons_zero, List.set_cons_succ]
  refine wpAnyR_take 2 rfl (by kernel_rfl) (by kernel_rfl) (by kernel_rfl) (by kernel_rfl) (fun _ _ _ h => h) (by rfl) (v := ?_) ?_ (by assumption) ?_
  rotate_left
  focus
    intro wS hSw
    (try dsimp only at hSw)
    go_simp
    (try simp only [hSw])
    (try simp only [gd0])
    (try simp only [gd9])
    (try simp only [hbo])
    (try simp only [hr2])
    (try simp only [hr3])
    try with_reducible rfl
  intro hHeld
  try simp only [Act.put, List.setIfInBounds_toArray, List.set_cons_zero, List.set_cons_succ]
  refine wpAnyR_take 3 rfl (by kernel_rfl) (by kernel_rfl) (by kernel_rfl) (by kernel_rfl) (fun _ _ _ h => h) (by rfl) (v := ?_) ?_ (by assumption) ?_
  rotate_left
  focus
    intro wS hSw
    (try dsimp only at hSw)
    go_simp
    (try simp only [hSw])
    (try simp only [gd0])
    (try simp only [gd9])
    (try simp only [hbo])
    (try simp only [hr2])
    (try simp only [hr3])
    try with_reducible rfl
  intro hHeld
  try simp only [Act.put, List.setIfInBounds_toArray, List.set_cons_zero, List.set_cons_succ]
  refine wpAnyR_take 4 rfl (by kernel_rfl) (by kernel_rfl) (by kernel_rfl) (by kernel_rfl) (fun _ _ _ h => h) (by rfl) (v := ?_) ?_ (by assumption) ?_
  rotate_left
  focus
    intro wS hSw
    (try dsimp only at hSw)
    go_simp
    (try simp only [hSw])
    (try simp only [gd0])
    (try simp only [gd9])
    (try simp only [hbo])
    (try simp only [hr2])
    (try simp only [hr3])
    try with_reducible rfl
  intro hHeld
  try simp only [Act.put, List.setIfInBounds_toArray, List.set_cons_zero, List.set_cons_succ]
  refine wpAnyR_take 5 rfl (by kernel_rfl) (by kernel_rfl) (by kernel_rfl) (by kernel_rfl) (fun _ _ _ h => h) (by rfl) (v := ?_) ?_ (by assumption) ?_
  rotate_left
  focus
    intro wS hSw
    (try dsimp only at hSw)
    go_simp
    (try simp only [hSw])
    (try simp only [gd0])
    (try simp only [gd9])
    (try simp only [hbo])
    (try simp only [hr2])
    (try simp only [hr3])
    try with_reducible rfl
  intro hHeld
  try simp only [Act.put, List.setIfInBounds_toArray, List.set_cons_zero, List.set_cons_succ]
  refine wpAnyR_take 6 rfl (by kernel_rfl) (by kernel_rfl) (by kernel_rfl) (by kernel_rfl) (fun _ _ _ h => h) (by rfl) (v := ?_) ?_ (by assumption) ?_
  rotate_left
  focus
    intro wS hSw
    (try dsimp only at hSw)
    go_simp
    (try simp only [hSw])
    (try simp only [gd0])
    (try simp only [gd9])
    (try simp only [hbo])
    (try simp only [hr2])
    (try simp only [hr3])
    try with_reducible rfl
  intro hHeld
  try simp only [Act.put, List.setIfInBounds_toArray, List.set_cons_zero, List.set_cons_succ]
  refine wpAnyR_take 7 rfl (by kernel_rfl) (by kernel_rfl) (by kernel_rfl) (by kernel_rfl) (fun _ _ _ h => h) (by rfl) (v := ?_) ?_ (by assumption) ?_
  rotate_left
  focus
    intro wS hSw
    (try dsimp only at hSw)
    go_simp
    (try simp only [hSw])
    (try simp only [gd0])
    (try simp only [gd9])
    (try simp only [hbo])
    (try simp only [hr2])
    (try simp only [hr3])
    try with_reducible rfl
  intro hHeld
  try simp only [Act.put, List.setIfInBounds_toArray, List.set_cons_zero, List.set_cons_succ]
  refine wpAnyR_take 8 rfl (by kernel_rfl) (by kernel_rfl) (by kernel_rfl) (by kernel_rfl) (fun _ _ _ h => h) (by rfl) (v := ?_) ?_ (by assumption) ?_
  rotate_left
  focus
    intro wS hSw
    (try dsimp only at hSw)
    go_simp
    (try simp only [hSw])
    (try simp only [gd0])
    (try simp only [gd9])
    (try simp only [hbo])
    (try simp only [hr2])
    (try simp only [hr3])
    try with_reducible rfl
  intro hHeld
  try simp only [Act.put, List.setIfInBounds_toArray, List.set_cons_zero, List.set_cons_succ]
  refine wpAnyR_take 9 rfl (by kernel_rfl) (by kernel_rfl) (by kernel_rfl) (by kernel_rfl) (fun _ _ _ h => h) (by rfl) (v := ?_) ?_ (by assumption) ?_
  rotate_left
  focus
    intro wS hSw
    (try dsimp only at hSw)
    go_simp
    (try simp only [hSw])
    (try simp only [gd0])
    (try simp only [gd9])
    (try simp only [hbo])
    (try simp only [hr2])
    (try simp only [hr3])
    try with_reducible rfl
  intro hHeld
  try simp only [Act.put, List.setIfInBounds_toArray, List.set_cons_zero, List.set_cons_succ]
  refine wpAnyR_take 11 rfl (by kernel_rfl) (by kernel_rfl) (by kernel_rfl) (by kernel_rfl) (fun _ _ _ h => h) (by rfl) (v := ?_) ?_ (by assumption) ?_
  rotate_left
  focus
    intro wS hSw
    (try dsimp only at hSw)
    go_simp
    (try simp only [hSw])
    (try simp only [gd0])
    (try simp only [gd9])
    (try simp only [hbo])
    (try simp only [hr2])
    (try simp only [hr3])
    try with_reducible rfl
  intro hHeld
  try simp only [Act.put, List.setIfInBounds_toArray, List.set_cons_zero, List.set_cons_succ]
  refine wpAnyR_take 12 rfl (by kernel_rfl) (by kernel_rfl) (by kernel_rfl) (by kernel_rfl) (fun _ _ _ h => h) (by rfl) (v := ?_) ?_ (by assumption) ?_
  rotate_left
  focus
    intro wS hSw
    (try dsimp only at hSw)
    go_simp
    (try simp only [hSw])
    (try simp only [gd0])
    (try simp only [gd9])
    (try simp only [hbo])
    (try simp only [hr2])
    (try simp only [hr3])
    try with_reducible rfl
  intro hHeld
  try simp only [Act.put, List.setIfInBounds_toArray, List.set_cons_zero, List.set_cons_succ]
  refine wpAnyR_step 10 rfl (by kernel_rfl) (fun K hK => ?_)
  go_simp
  go_at_call 130
  refine (HF.out _).mono ?_
  rintro e w3 ⟨rfl, hb3⟩
  have HB' := Lib.hid (HB.out.trans (hb3.mono HB.out.size))
  clear HB hb3
  have HB := HB'
  clear HB'
  go_wp2_with fail
  refine hK.out _ _ (HEL.out _ HB.out) (fun hHeld => ?_)
  clear hK K
  try simp only [Act.put, List.setIfInBounds_toArray, List.set_cons_zero, List.set_cons_succ]
  refine wpAnyR_step 13 rfl (by kernel_rfl) (fun K hK => ?_)
  go_simp
  go_at_call 129
  refine (HU.out _).mono ?_
  rintro e w4 ⟨rfl, rfl⟩
  go_wp2_with fail
  refine hK.out _ _ (HEL.out _ HB.out) (fun hHeld => ?_)
  clear hK K
  try simp only [Act.put, List.setIfInBounds_toArray, List.set_cons_zero, List.set_cons_succ]
  refine wpAnyR_take 14 rfl (by kernel_rfl) (by kernel_rfl) (by kernel_rfl) (by kernel_rfl) (fun _ _ _ h => h) (by rfl) (v := ?_) ?_ (by assumption) ?_
  rotate_left
  focus
    intro wS hSw
    (try dsimp only at hSw)
    go_simp
    (try simp only [hSw])
    (try simp only [gd0])
    (try simp only [gd9])
    (try simp only [hbo])
    (try simp only [hr2])
    (try simp only [hr3])
    try with_reducible rfl
  intro hHeld
  try simp only [Act.put, List.setIfInBounds_toArray, List.set_cons_zero, List.set_cons_succ]
  refine wpAnyR_take 15 rfl (by kernel_rfl) (by kernel_rfl) (by kernel_rfl) (by kernel_rfl) (fun _ _ _ h => h) (by rfl) (v := ?_) ?_ (by assumption) ?_
  rotate_left
  focus
    intro wS hSw
    (try dsimp only at hSw)
    go_simp
    (try simp only [hSw])
    (try simp only [gd0])
    (try simp only [gd9])
    (try simp only [hbo])
    (try simp only [hr2])
    (try simp only [hr3])
    try with_reducible rfl
  intro hHeld
  try simp only [Act.put, List.setIfInBounds_toArray, List.set_cons_zero, List.set_cons_succ]
  refine wpAnyR_take 16 rfl (by kernel_rfl) (by kernel_rfl) (by kernel_rfl) (by kernel_rfl) (fun _ _ _ h => h) (by rfl) (v := ?_) ?_ (by assumption) ?_
  rotate_left
  focus
    intro wS hSw
    (try dsimp only at hSw)
    go_simp
    (try simp only [hSw])
    (try simp only [gd0])
    (try simp only [gd9])
    (try simp only [hbo])
    (try simp only [hr2])
    (try simp only [hr3])
    try with_reducible rfl
  intro hHeld
  try simp only [Act.put, List.setIfInBounds_toArray, List.set_cons_zero, List.set_cons_succ]
  refine wpAnyR_take 17 rfl (by kernel_rfl) (by kernel_rfl) (by kernel_rfl) (by kernel_rfl) (fun _ _ _ h => h) (by rfl) (v := ?_) ?_ (by assumption) ?_
  rotate_left
  focus
    intro wS hSw
    (try dsimp only at hSw)
    go_simp
    (try simp only [hSw])
    (try simp only [gd0])
    (try simp only [gd9])
    (try simp only [hbo])
    (try simp only [hr2])
    (try simp only [hr3])
    try with_reducible rfl
  intro hHeld
  try simp only [Act.put, List.setIfInBounds_toArray, List.set_cons_zero, List.set_cons_succ]
  refine wpAnyR_take 18 rfl (by kernel_rfl) (by kernel_rfl) (by kernel_rfl) (by kernel_rfl) (fun _ _ _ h => h) (by rfl) (v := ?_) ?_ (by assumption) ?_
  rotate_left
  focus
    intro wS hSw
    (try dsimp only at hSw)
    go_simp
    (try simp only [hSw])
    (try simp only [gd0])
    (try simp only [gd9])
    (try simp only [hbo])
    (try simp only [hr2])
    (try simp only [hr3])
    try with_reducible rfl
  intro hHeld
  try simp only [Act.put, List.setIfInBounds_toArray, List.set_cons_zero, List.set_cons_succ]
  refine wpAnyR_step 19 rfl (by kernel_rfl) (fun K hK => ?_)
  go_simp
  go_at_call 131
  refine (HN.out _).mono ?_
  rintro e w3 ⟨rfl, hb3⟩
  have HB' := Lib.hid (HB.out.trans (hb3.mono HB.out.size))
  clear HB hb3
  have HB := HB'
  clear HB'
  go_wp2_with fail
  refine hK.out _ _ (HEL.out _ HB.out) (fun hHeld => ?_)
  clear hK K
  try simp only [Act.put, List.setIfInBounds_toArray, List.set_cons_zero, List.set_cons_succ]
  refine wpAnyR_take 20 rfl (by kernel_rfl) (by kernel_rfl) (by kernel_rfl) (by kernel_rfl) (fun _ _ _ h => h) (by rfl) (v := ?_) ?_ (by assumption) ?_
  rotate_left
  focus
    intro wS hSw
    (try dsimp only at hSw)
    go_simp
    (try simp only [hSw])
    (try simp only [gd0])
    (try simp only [gd9])
    (try simp only [hbo])
    (try simp only [hr2])
    (try simp only [hr3])
    try with_reducible rfl
  intro hHeld
  try simp only [Act.put, List.setIfInBounds_toArray, List.set_cons_zero, List.set_cons_succ]
  refine wpAnyR_take 21 rfl (by kernel_rfl) (by kernel_rfl) (by kernel_rfl) (by kernel_rfl) (fun _ _ _ h => h) (by rfl) (v := ?_) ?_ (by assumption) ?_
  rotate_left
  focus
    intro wS hSw
    (try dsimp only at hSw)
    go_simp
    (try simp only [hSw])
    (try simp only [gd0])
    (try simp only [gd9])
    (try simp only [hbo])
    (try simp only [hr2])
    (try simp only [hr3])
    try with_reducible rfl
  intro hHeld
  try simp only [Act.put, List.setIfInBounds_toArray, List.set_cons_zero, List.set_cons_succ]
  refine wpAnyR_take 22 rfl (by kernel_rfl) (by kernel_rfl) (by kernel_rfl) (by kernel_rfl) (fun _ _ _ h => h) (by rfl) (v := ?_) ?_ (by assumption) ?_
  rotate_left
  focus
    intro wS hSw
    (try dsimp only at hSw)
    go_simp
    (try simp only [hSw])
    (try simp only [gd0])
    (try simp only [gd9])
    (try simp only [hbo])
    (try simp only [hr2])
    (try simp only [hr3])
    try with_reducible rfl
  intro hHeld
  try simp only [Act.put, List.setIfInBounds_toArray, List.set_cons_zero, List.set_cons_succ]
  refine wpAnyR_step 23 rfl (by kernel_rfl) (fun K hK => ?_)
  go_simp
  go_at_call 132
  refine (HL.out _ (HBW.out _ HB.out)).mono ?_
  rintro e w3 ⟨rfl, hb3⟩
  have HB' := Lib.hid (HB.out.trans (hb3.mono HB.out.size))
  clear HB hb3
  have HB := HB'
  clear HB'
  go_wp2_with fail
  refine hK.out _ _ (HEL.out _ HB.out) (fun hHeld => ?_)
  clear hK K
  try simp only [Act.put, List.setIfInBounds_toArray, List.set_cons_zero, List.set_cons_succ]
  refine wpAnyR_take 24 rfl (by kernel_rfl) (by kernel_rfl) (by kernel_rfl) (by kernel_rfl) (fun _ _ _ h => h) (by rfl) (v := ?_) ?_ (by assumption) ?_
  rotate_left
  focus
    intro wS hSw
    (try dsimp only at hSw)
    go_simp
    (try simp only [hSw])
    (try simp only [gd0])
    (try simp only [gd9])
    (try simp only [hbo])
    (try simp only [hr2])
    (try simp only [hr3])
    try with_reducible rfl
  intro hHeld
  try simp only [Act.put, List.setIfInBounds_toArray, List.set_cons_zero, List.set_cons_succ]
  refine wpAnyR_take 25 rfl (by kernel_rfl) (by kernel_rfl) (by kernel_rfl) (by kernel_rfl) (fun _ _ _ h => h) (by rfl) (v := ?_) ?_ (by assumption) ?_
  rotate_left
  focus
    intro wS hSw
    (try dsimp only at hSw)
    go_simp
    (try simp only [hSw])
    (try simp only [gd0])
    (try simp only [gd9])
    (try simp only [hbo])
    (try simp only [hr2])
    (try simp only [hr3])
    try with_reducible rfl
  intro hHeld
  try simp only [Act.put, List.setIfInBounds_toArray, List.set_cons_zero, List.set_cons_succ]
  refine wpAnyR_take 26 rfl (by kernel_rfl) (by kernel_rfl) (by kernel_rfl) (by kernel_rfl) (fun _ _ _ h => h) (by rfl) (v := ?_) ?_ (by assumption) ?_
  rotate_left
  focus
    intro wS hSw
    (try dsimp only at hSw)
    go_simp
    (try simp only [hSw])
    (try simp only [gd0])
    (try simp only [gd9])
    (try simp only [hbo])
    (try simp only [hr2])
    (try simp only [hr3])
    try with_reducible rfl
  intro hHeld
  try simp only [Act.put, List.setIfInBounds_toArray, List.set_cons_zero, List.set_cons_succ]
  refine wpAnyR_step 27 rfl (by kernel_rfl) (fun K hK => ?_)
  go_simp
  go_at_call 133
  refine (HH.out _ (HBW.out _ HB.out)).mono ?_
  rintro e w3 ⟨rfl, hb3⟩
  have HB' := Lib.hid (HB.out.trans (hb3.mono HB.out.size))
  clear HB hb3
  have HB := HB'
  clear HB'
  go_wp2_with fail
  refine hK.out _ _ (HEL.out _ HB.out) (fun hHeld => ?_)
  clear hK K
  try simp only [Act.put, List.setIfInBounds_toArray, List.set_cons_zero, List.set_cons_succ]
  refine wpAnyR_take 28 rfl (by kernel_rfl) (by kernel_rfl) (by kernel_rfl) (by kernel_rfl) (fun _ _ _ h => h) (by rfl) (v := ?_) ?_ (by assumption) ?_
  rotate_left
  focus
    intro wS hSw
    (try dsimp only at hSw)
    go_simp
    (try simp only [hSw])
    (try simp only [gd0])
    (try simp only [gd9])
    (try simp only [hbo])
    (try simp only [hr2])
    (try simp only [hr3])
    try with_reducible rfl
  intro hHeld
  try simp only [Act.put, List.setIfInBounds_toArray, List.set_cons_zero, List.set_cons_succ]
  refine wpAnyR_take 29 rfl (by kernel_rfl) (by kernel_rfl) (by kernel_rfl) (by kernel_rfl) (fun _ _ _ h => h) (by rfl) (v := ?_) ?_ (by assumption) ?_
  rotate_left
  focus
    intro wS hSw
    (try dsimp only at hSw)
    go_simp
    (try simp only [hSw])
    (try simp only [gd0])
    (try simp only [gd9])
    (try simp only [hbo])
    (try simp only [hr2])
    (try simp only [hr3])
    try with_reducible rfl
  intro hHeld
  try simp only [Act.put, List.setIfInBounds_toArray, List.set_cons_zero, List.set_cons_succ]
  refine wpAnyR_done (by kernel_rfl) ?_
  refine NoPanic.normal ?_
  go_wp2_with fail
  go_ret
  exact ⟨⟨_, rfl, HR.out⟩, HBW.out _ HB.out⟩
end

section
open Go.RowKit Go.Sort
set_option linter.unusedVariables false
set_option maxRecDepth 100000
/-- A place: the object's cells, how far one is, what is still to come. -/
structure Fr where
  d0 : Value
  d1 : Value
  d2 : Value
  d3 : Value
  d4 : Value
  i : Nat
  ys : List Part
theorem infoPl : (Tryz.prog.info? 177).map (fun i => (i.zero, i.size, i.bytes)) = some (some (.agg #[.int .i64 0, .int .i64 0, .slice none 0 0, .slice none 0 0, .slice none 0 0, .int .i64 0]), 6, 96) := by kernel_rfl
def PlC : List Fr → List Value → Prop
  | [], cs => cs = []
  | f :: fs, cs => ∃ rest, cs = rest ++ [f.d0, f.d1, f.d2, f.d3, f.d4, .int .i64 f.i] ∧ PlC fs rest
def PlS (w : World) (base : Nat) (v : Value) (st : List Fr) : Prop := ∃ cs, w.ownsRow base 177 6 v st.length cs ∧ PlC st cs
section
variable {w w' : World} {base : Nat} {v : Value} {st : List Fr}
theorem PlS.same (h : PlS w base v st) (hk : ∀ b, v.ownBlock = some b → w'.heap[b]? = w.heap[b]?) : PlS w' base v st := by
  obtain ⟨cs, h1, h2⟩ := h
  exact ⟨cs, row_sameN h1 hk, h2⟩
theorem PlS.lt (h : PlS w base v st) (b : Nat) (hb : v.ownBlock = some b) : b < w.heap.size ∧ base ≤ b := by
  obtain ⟨cs, h1, h2⟩ := h
  exact row_ltN h1 b hb
theorem PlS.tag (h : PlS w base v st) (b : Nat) (hb : v.ownBlock = some b) : ∃ cur, w.heap[b]? = some (.cells cur 177 (0, 0)) := by
  obtain ⟨cs, h1, h2⟩ := h
  rcases h1.2 with ⟨rfl, _⟩ | ⟨b', cap, cur, rfl, h2, hh, _⟩
  · cases hb
  · injection hb with hb
    dsimp only at hb
    subst hb
    exact ⟨cur, hh⟩
theorem PlS.low (h : PlS w base v st) (hb : Below w.heap.size w w') : PlS w' base v st := h.same fun b hb' => hb.block b (h.lt b hb').1
theorem PlS.shape (h : PlS w base v st) : ∃ A c, v = .slice A st.length c := by
  obtain ⟨cs, h1, h2⟩ := h
  obtain ⟨A, c, e, _⟩ := row_shapeN h1
  exact ⟨A, c, e⟩
/-- The top one, and the others. -/
theorem PlS.top {f : Fr} (h : PlS w base v (f :: st)) : ∃ g c, v = .slice (some ⟨g, 0, none⟩) (st.length + 1) c ∧ base ≤ g ∧ g < w.heap.size ∧ PlS w base (.slice (some ⟨g, 0, none⟩) st.length c) st ∧ (st.length + 1 ≤ c ∧ c ≤ 9223372036854775807) ∧
    (w.cell? ⟨g, st.length * 6, none⟩ = some f.d0 ∧ w.cell? ⟨g, st.length * 6 + 1, none⟩ = some f.d1 ∧ w.cell? ⟨g, st.length * 6 + 2, none⟩ = some f.d2 ∧ w.cell? ⟨g, st.length * 6 + 3, none⟩ = some f.d3 ∧ w.cell? ⟨g, st.length * 6 + 4, none⟩ = some f.d4 ∧ w.cell? ⟨g, st.length * 6 + 5, none⟩ = some (.int .i64 f.i)) ∧
    ∀ w', w'.heap[g]? = (w.setCell ⟨g, st.length * 6 + 5, none⟩ (.int .i64 ((f.i + 1 : Nat) : Int))).heap[g]? → PlS w' base v ({ f with i := f.i + 1 } :: st) := by
  obtain ⟨cs, h1, h2⟩ := h
  obtain ⟨rest, rfl, hr⟩ := h2
  rw [List.length_cons] at h1
  have hl := h1.1
  have hrl : rest.length = st.length * 6 := by simp at hl; omega
  obtain ⟨A, c, rfl, hc, hg⟩ := row_shapeN h1
  obtain ⟨g, rfl, hbg, hgw, hcell⟩ := hg (by omega)
  have at_ : ∀ j u, [f.d0, f.d1, f.d2, f.d3, f.d4, Value.int .i64 f.i][j]? = some u → w.cell? ⟨g, st.length * 6 + j, none⟩ = some u := fun j u hj => by
    have := hcell (st.length * 6 + j) u (by rw [← hrl, List.getElem?_append_right (by omega), Nat.add_sub_cancel_left]; exact hj)
    rw [Nat.zero_add] at this; exact this
  refine ⟨g, c, rfl, hbg, hgw, ⟨rest, ⟨hrl, ?_⟩, hr⟩, hc, ⟨at_ 0 _ rfl, at_ 1 _ rfl, at_ 2 _ rfl, at_ 3 _ rfl, at_ 4 _ rfl, at_ 5 _ rfl⟩, fun w' hw' => ⟨rest ++ [f.d0, f.d1, f.d2, f.d3, f.d4, .int .i64 ((f.i + 1 : Nat) : Int)], ⟨by simp [hrl]; omega, ?_⟩, rest, rfl, hr⟩⟩
  · rcases h1.2 with ⟨h0, _⟩ | ⟨g2, cap, cur, ev, hb, hh, hcp, hm, hs, ht⟩
    · cases h0
    · injection ev with a1 a2 a3
      injection a1 with a1
      injection a1 with a1
      subst a1 a3
      refine .inr ⟨g, c, cur, rfl, hb, hh, by omega, hm, hs, ?_⟩
      have := congrArg (List.take rest.length) ht
      rw [List.take_take, List.take_left] at this
      rw [← hrl]
      rw [show min rest.length ((st.length + 1) * 6) = rest.length by omega] at this
      exact this
  · rcases h1.2 with ⟨h0, _⟩ | ⟨g2, cap, cur, ev, hb, hh, hcp, hm, hs, ht⟩
    · cases h0
    · injection ev with a1 a2 a3
      injection a1 with a1
      injection a1 with a1
      subst a1 a3
      refine .inr ⟨g, c, cur.set! (st.length * 6 + 5) (.int .i64 ((f.i + 1 : Nat) : Int)), rfl, hb, hw'.trans ?_, hcp, hm, by simpa using hs, ?_⟩
      · simp [World.setCell, Array.getElem?_modify, hh]
      · have e2 : rest ++ [f.d0, f.d1, f.d2, f.d3, f.d4, Value.int .i64 ((f.i + 1 : Nat) : Int)] = (rest ++ [f.d0, f.d1, f.d2, f.d3, f.d4, Value.int .i64 f.i]).set (st.length * 6 + 5) (.int .i64 ((f.i + 1 : Nat) : Int)) := by
          rw [List.set_append_right _ _ (by omega), hrl, Nat.add_sub_cancel_left]
          rfl
        rw [List.length_cons, e2, ← ht]
        simp [List.take_set]
/-- One more, out of a literal. -/
theorem PlS.push (h : PlS w base v st) (f : Fr) (hi : f.i = 0) (ho : f.d0.oneCell' = true ∧ f.d1.oneCell' = true ∧ f.d2.oneCell' = true ∧ f.d3.oneCell' = true ∧ f.d4.oneCell' = true) (hl : st.length ≤ 100000000) (hbase : base ≤ w.heap.size) :
    ∃ A c w'', (Builtin.append_ #[178, 178] 178 #[v, .slice (some ⟨w.heap.size, 0, none⟩) 1 1]).run Tryz.prog (w.alloc (.cells #[f.d0, f.d1, f.d2, f.d3, f.d4, .int .i64 0] 177)) = .ok (.slice A (st.length + 1) c) w'' ∧ PlS w'' base (.slice A (st.length + 1) c) (f :: st) ∧ w.grownBy w'' v.ownBlock := by
  have hb1 : Below w.heap.size w (w.alloc (.cells #[f.d0, f.d1, f.d2, f.d3, f.d4, .int .i64 0] 177)) := (Below.refl _ _).alloc (Nat.le_refl _) _
  have hn := heap_alloc_new w (.cells #[f.d0, f.d1, f.d2, f.d3, f.d4, .int .i64 0] 177)
  have hga : w.grownBy (w.alloc (.cells #[f.d0, f.d1, f.d2, f.d3, f.d4, .int .i64 0] 177)) v.ownBlock := World.grownBy_alloc _ _ _
  obtain ⟨cs, hr, hc⟩ := h.low hb1
  obtain ⟨i0, hi0, hz0, hz1, hz2⟩ := info_parts infoPl
  obtain ⟨o0, o1, o2, o3, o4⟩ := ho
  obtain ⟨W1, hW1⟩ : ∃ W1, w.alloc (.cells #[f.d0, f.d1, f.d2, f.d3, f.d4, .int .i64 0] 177) = W1 := ⟨_, rfl⟩
  rw [hW1] at hb1 hn hr hga ⊢
  obtain ⟨v', w'', hrun, hown, hgr, _, hat⟩ := run_append_own_at (P := Tryz.prog) W1 base 178 178 177 i0 _ 6 96 Tryz.underlying178 hi0 hz0 hz1 hz2 rfl (by omega) v st.length cs hr ⟨w.heap.size, 0, none⟩ 1 1 [f.d0, f.d1, f.d2, f.d3, f.d4, .int .i64 0] rfl
    (by
      intro j u hj
      have e : (⟨w.heap.size, 0, none⟩ : Addr).add j = ⟨w.heap.size, 0 + j, none⟩ := by unfold Addr.add; split <;> simp_all
      rw [Nat.zero_add] at e
      rw [e, cell_of_row _ _ j _ _ (0, 0) hn]
      simpa using hj)
    (by
      intro u hu
      simp only [List.mem_cons, List.not_mem_nil, or_false] at hu
      rcases hu with rfl | rfl | rfl | rfl | rfl | rfl <;> first | assumption | rfl) (by simp only [maxLen]; omega) (by omega) (Nat.le_trans hbase hb1.size)
  obtain ⟨A, c, rfl⟩ := own_slice hown
  refine ⟨A, c, w'', hrun, ⟨cs ++ [f.d0, f.d1, f.d2, f.d3, f.d4, .int .i64 0], hown, cs, by rw [hi]; rfl, hc⟩, ?_⟩
  exact ⟨hgr.os.trans hga.os, hgr.tape.trans hga.tape, hgr.output.trans hga.output, Nat.le_trans hga.size hgr.size, fun k hk hne => (hgr.block k (Nat.lt_of_lt_of_le hk hga.size) hne).trans (hga.block k hk hne)⟩
end
/-- What is still to come from a place, in the old memory. -/
def FrR (w : World) (S : Nat → Prop) (a : Nat) (f : Fr) : Prop :=
  ∃ A3 m3 c3 A4 m4 c4, f.d3 = .slice A3 m3 c3 ∧ f.d4 = .slice A4 m4 c4 ∧ (m3 ≤ c3 ∧ c3 ≤ 9223372036854775807) ∧ (m4 ≤ c4 ∧ c4 ≤ 9223372036854775807) ∧ (m3 ≤ 100000000 ∧ m4 ≤ 100000000 ∧ f.i ≤ 100000000) ∧
    ((m3 ≤ f.i ∧ m4 ≤ f.i ∧ f.ys = [])
    ∨ (∃ l g o, m3 = f.i + l.len ∧ 0 < l.len ∧ m4 = 0 ∧ A3 = some ⟨g, o, none⟩ ∧ S g ∧ WkL w S a l g (o + f.i * 5) f.ys)
    ∨ (∃ d g o, m4 = f.i + d.len ∧ 0 < d.len ∧ m3 = 0 ∧ A4 = some ⟨g, o, none⟩ ∧ S g ∧ WkE w S a d g (o + f.i * 6) f.ys))
/-- All that is still to come. -/
def Rest (st : List Fr) : List Part := st.flatMap (·.ys)
def FrsR (w : World) (S : Nat → Prop) : List Fr → Prop
  | [] => True
  | f :: fs => FrR w S (fs.length + 1) f ∧ FrsR w S fs
theorem wkL_one {w : World} {S : Nat → Prop} {a g o : Nat} {l : Obs} {ys : List Part} (h : WkL w S a l g o ys) (h0 : 0 < l.len) : ∃ x xs y1 y2 p, l = .cons x xs ∧ ys = p :: (y1 ++ y2) ∧ p.a = a ∧ p.x = x ∧
    (w.cell? ⟨g, o, none⟩ = some p.c0 ∧ w.cell? ⟨g, o + 1, none⟩ = some p.c1 ∧ w.cell? ⟨g, o + 2, none⟩ = some p.c2 ∧ w.cell? ⟨g, o + 3, none⟩ = some p.c3 ∧ w.cell? ⟨g, o + 4, none⟩ = some p.c4) ∧ ObR w S x p.c0 p.c1 p.c2 p.c3 p.c4 ∧ (okO x ∧ a + htO x ≤ 100000000) ∧ WkO w S a x p.c3 p.c4 y1 ∧ WkL w S a xs g (o + 5) y2 := by
  cases l with
  | nil => rw [Obs.len] at h0; omega
  | cons x xs =>
    unfold WkL at h
    obtain ⟨c0, c1, c2, c3, c4, y1, y2, hc, hx, hk, h1, h2, rfl⟩ := h
    exact ⟨x, xs, y1, y2, ⟨a, x, c0, c1, c2, c3, c4⟩, rfl, rfl, rfl, rfl, hc, hx, hk, h1, h2⟩
theorem wkE_one {w : World} {S : Nat → Prop} {a g o : Nat} {l : Ens} {ys : List Part} (h : WkE w S a l g o ys) (h0 : 0 < l.len) : ∃ s x xs y1 y2 p, l = .cons s x xs ∧ ys = p :: (y1 ++ y2) ∧ p.a = a ∧ p.x = x ∧
    (w.cell? ⟨g, o + 1, none⟩ = some p.c0 ∧ w.cell? ⟨g, o + 2, none⟩ = some p.c1 ∧ w.cell? ⟨g, o + 3, none⟩ = some p.c2 ∧ w.cell? ⟨g, o + 4, none⟩ = some p.c3 ∧ w.cell? ⟨g, o + 5, none⟩ = some p.c4) ∧ ObR w S x p.c0 p.c1 p.c2 p.c3 p.c4 ∧ (okO x ∧ a + htO x ≤ 100000000) ∧ WkO w S a x p.c3 p.c4 y1 ∧ WkE w S a xs g (o + 6) y2 := by
  cases l with
  | nil => rw [Ens.len] at h0; omega
  | cons s x xs =>
    unfold WkE at h
    obtain ⟨c0, c1, c2, c3, c4, y1, y2, hc, hx, hk, h1, h2, rfl⟩ := h
    exact ⟨s, x, xs, y1, y2, ⟨a, x, c0, c1, c2, c3, c4⟩, rfl, rfl, rfl, rfl, ⟨hc.2.1, hc.2.2.1, hc.2.2.2.1, hc.2.2.2.2.1, hc.2.2.2.2.2⟩, hx, hk, h1, h2⟩
/-- The place of an object that is used as its kind uses it. -/
theorem used_fr {w : World} {S : Nat → Prop} {x : Ob} {a : Nat} {c0 c1 c2 c3 c4 : Value} {ys : List Part} (hx : ObR w S x c0 c1 c2 c3 c4) (hok : okO x) (hy : WkO w S a x c3 c4 ys) : ∃ (k n : Int) (B2 : Option Addr) (p2 q2 : Nat) (B3 : Option Addr) (p3 q3 : Nat) (B4 : Option Addr) (p4 q4 : Nat), FrR w S (a + 1) ⟨.int .i64 k, .int .i64 n, .slice B2 p2 q2, .slice B3 p3 q3, .slice B4 p4 q4, 0, ys⟩ ∧
    ∀ W, Calls Tryz.prog 127 #[.agg #[c0, c1, c2, c3, c4]] W fun e w' => e = .returned (.agg #[.int .i64 k, .int .i64 n, .slice B2 p2 q2, .slice B3 p3 q3, .slice B4 p4 q4]) ∧ Below W.heap.size W w' := by
  obtain ⟨k, n, b, l, d⟩ := x
  unfold ObR at hx
  obtain ⟨rfl, rfl, -, -, ⟨A2, m2, c2', rfl, hb⟩, ⟨A3, c3', rfl, hc3, h3⟩, ⟨A4, c4', rfl, hc4, h4⟩⟩ := hx
  have hu := usedC k n A2 A3 A4 m2 c2' l.len c3' d.len c4'
  unfold okO at hok
  have hll := hok.2.1
  have hdl := hok.2.2.1
  unfold WkO at hy
  unfold usedV at hu
  have hmx : (0 : Nat) ≤ 0 ∧ (0 : Nat) ≤ 9223372036854775807 := by omega
  by_cases h6 : k = 6
  · subst h6
    rw [if_pos rfl] at hy
    obtain ⟨A, m, c, g, o, e, rfl, hcc, hgo, hw⟩ := hy
    injection e with e1 e2 e3
    subst e1 e3
    rw [if_neg (by decide), if_neg (by decide), if_pos rfl] at hu
    refine ⟨6, 0, none, 0, 0, A3, l.len, c3', none, 0, 0, ⟨A3, l.len, c3', none, 0, 0, rfl, rfl, hcc, hmx, ⟨hll, by omega, Nat.zero_le _⟩, ?_⟩, hu⟩
    rcases Nat.eq_zero_or_pos l.len with h0 | h0
    · have hn : l = .nil := by cases l with | nil => rfl | cons x xs => rw [Obs.len] at h0; omega
      subst hn
      unfold WkL at hw
      exact .inl ⟨Nat.le_refl _, Nat.le_refl _, hw⟩
    · obtain ⟨hA, hg⟩ := hgo h0
      exact .inr (.inl ⟨l, g, o, by simp, h0, rfl, hA, hg, hw⟩)
  · rw [if_neg h6] at hy
    by_cases h78 : k = 7 ∨ k = 8
    · rw [if_pos h78] at hy
      obtain ⟨A, m, c, g, o, e, rfl, hcc, hgo, hw⟩ := hy
      injection e with e1 e2 e3
      subst e1 e3
      have hfin : ∀ d0 d1 d2 : Value, FrR w S (a + 1) ⟨d0, d1, d2, nilV, .slice A4 d.len c4', 0, ys⟩ := fun d0 d1 d2 => by
        refine ⟨none, 0, 0, A4, d.len, c4', rfl, rfl, hmx, hcc, ⟨by omega, hdl, Nat.zero_le _⟩, ?_⟩
        rcases Nat.eq_zero_or_pos d.len with h0 | h0
        · have hn : d = .nil := by cases d with | nil => rfl | cons s x xs => rw [Ens.len] at h0; omega
          subst hn
          unfold WkE at hw
          exact .inl ⟨Nat.le_refl _, Nat.le_refl _, hw⟩
        · obtain ⟨hA, hg⟩ := hgo h0
          exact .inr (.inr ⟨d, g, o, by simp, h0, rfl, hA, hg, hw⟩)
      rcases h78 with rfl | rfl
      · rw [if_neg (by decide), if_neg (by decide), if_neg (by decide), if_pos rfl] at hu
        exact ⟨7, 0, none, 0, 0, none, 0, 0, A4, d.len, c4', hfin _ _ _, hu⟩
      · rw [if_neg (by decide), if_neg (by decide), if_neg (by decide), if_neg (by decide), if_pos rfl] at hu
        exact ⟨8, 0, A2, m2, c2', none, 0, 0, A4, d.len, c4', hfin _ _ _, hu⟩
    · rw [if_neg h78] at hy
      subst hy
      have hfin : ∀ d0 d1 d2 : Value, FrR w S (a + 1) ⟨d0, d1, d2, nilV, nilV, 0, []⟩ := fun d0 d1 d2 => ⟨none, 0, 0, none, 0, 0, rfl, rfl, hmx, hmx, ⟨by omega, by omega, Nat.zero_le _⟩, .inl ⟨Nat.le_refl _, Nat.le_refl _, rfl⟩⟩
      by_cases h1 : k = 1 ∨ k = 2 ∨ k = 3 ∨ k = 9
      · rw [if_pos h1] at hu
        exact ⟨k, n, none, 0, 0, none, 0, 0, none, 0, 0, hfin _ _ _, hu⟩
      · rw [if_neg h1] at hu
        by_cases h45 : k = 4 ∨ k = 5
        · rw [if_pos h45] at hu
          exact ⟨k, 0, A2, m2, c2', none, 0, 0, none, 0, 0, hfin _ _ _, hu⟩
        · rw [if_neg h45, if_neg h6, if_neg (by omega), if_neg (by omega)] at hu
          exact ⟨0, 0, none, 0, 0, none, 0, 0, none, 0, 0, hfin _ _ _, hu⟩
/-- The first one, out of a literal. -/
theorem PlS.start {w : World} {base : Nat} (f : Fr) (hi : f.i = 0) (hb : base ≤ w.heap.size) : PlS (w.alloc (.cells #[f.d0, f.d1, f.d2, f.d3, f.d4, .int .i64 0] 177)) base (.slice (some ⟨w.heap.size, 0, none⟩) 1 1) [f] :=
  ⟨[f.d0, f.d1, f.d2, f.d3, f.d4, .int .i64 0], ⟨rfl, .inr ⟨w.heap.size, 1, _, rfl, hb, heap_alloc_new w _, Nat.le_refl _, by decide, rfl, rfl⟩⟩, [], by rw [hi]; rfl, rfl⟩
end

section
open Go.RowKit Go.Sort
set_option linter.unusedVariables false
set_option maxRecDepth 100000
theorem results_row_tmp14 {P : Program} {fn : Func} {p u : Tmp} {ty : TypeId} (h : fn.results = #[.cell p ty, .tmp u]) (tmps : Array Value) (w : World) (g : Nat) (t : TypeId) (cs : Array Value) (fr : Nat × Nat) (d : TypeDesc)
    (hp : tmps.getD p undef = .pointer (some ⟨g, 0, none⟩)) (hg : w.heap[g]? = some (.cells cs t fr))
    (hu : P.underlying ty = some d) (hd : (match d with | .struct _ | .array _ _ => true | _ => false) = true) (hi : (P.info? ty).map (·.size) = some cs.size) (x : Value) (hx : tmps.getD u undef = x) :
    (results fn tmps).run P w = .ok (.tuple #[.agg cs, x]) w := by
  have hp' : tmps[p]?.getD undef = .pointer (some ⟨g, 0, none⟩) := by simpa using hp
  have hx' : tmps[u]?.getD undef = x := by simpa using hx
  simp [results, h, hp', hx', asAddr, run_loadVar_row w g t ty cs fr d hg hu hd hi]
/-- What next leaves: the place's number, nothing else of what was there. -/
structure NxK (w : World) (G q i : Nat) (w' : World) : Prop where
  os : w'.os = w.os
  tape : w'.tape = w.tape
  output : w'.output = w.output
  size : w.heap.size ≤ w'.heap.size
  block : ∀ b, b < w.heap.size → w'.heap[b]? = (w.setCell ⟨G, q + 5, none⟩ (.int .i64 ((i + 1 : Nat) : Int))).heap[b]?
/-- The world behind the number's store. -/
structure NxW (w : World) (G q i : Nat) (A3 A4 : Option Addr) (m3 c3 m4 c4 : Nat) (W : World) : Prop where
  keep : NxK w G q i W
  size1 : W.heap.size = w.heap.size + 1
  row : W.heap[w.heap.size]? = some (.cells #[.int .i64 0, .int .i64 0, .slice none 0 0, .slice none 0 0, .slice none 0 0] 30 (0, 0))
  k3 : W.cell? ⟨G, q + 3, none⟩ = some (.slice A3 m3 c3)
  k4 : W.cell? ⟨G, q + 4, none⟩ = some (.slice A4 m4 c4)
  oth : ∀ g o, g ≠ G → g < w.heap.size → W.cell? ⟨g, o, none⟩ = w.cell? ⟨g, o, none⟩
theorem NxW.mk_ {G q i : Nat} {A3 A4 : Option Addr} {m3 c3 m4 c4 : Nat} {w : World} (hG : G < w.heap.size)
    (k3 : w.cell? ⟨G, q + 3, none⟩ = some (.slice A3 m3 c3)) (k4 : w.cell? ⟨G, q + 4, none⟩ = some (.slice A4 m4 c4)) : NxW w G q i A3 A4 m3 c3 m4 c4 ((w.setCell ⟨G, q + 5, none⟩ (.int .i64 ((i : Int) + 1))).alloc (.cells #[.int .i64 0, .int .i64 0, .slice none 0 0, .slice none 0 0, .slice none 0 0] 30)) := by
  have e1 : ((i + 1 : Nat) : Int) = (i : Int) + 1 := by omega
  have hsz : (w.setCell ⟨G, q + 5, none⟩ (.int .i64 ((i : Int) + 1))).heap.size = w.heap.size := by simp [World.setCell]
  have hb := (Below.refl w.heap.size (w.setCell ⟨G, q + 5, none⟩ (.int .i64 ((i : Int) + 1)))).alloc (by rw [hsz]; exact Nat.le_refl _) (.cells #[.int .i64 0, .int .i64 0, .slice none 0 0, .slice none 0 0, .slice none 0 0] 30)
  have hc : ∀ j, j ≠ 5 → ((w.setCell ⟨G, q + 5, none⟩ (.int .i64 ((i : Int) + 1))).alloc (.cells #[.int .i64 0, .int .i64 0, .slice none 0 0, .slice none 0 0, .slice none 0 0] 30)).cell? ⟨G, q + j, none⟩ = w.cell? ⟨G, q + j, none⟩ := fun j hj =>
    (World.cell?_of_block (a := ⟨G, q + j, none⟩) (hb.block G hG)).trans (World.cell?_setCell_other _ _ _ _ (fun e => by injection e with _ e2 _; omega))
  refine ⟨⟨rfl, rfl, rfl, by rw [World.size_alloc, hsz]; omega, fun b hb' => by rw [e1]; exact hb.block b hb'⟩, by rw [World.size_alloc, hsz], by have := heap_alloc_new (w.setCell ⟨G, q + 5, none⟩ (.int .i64 ((i : Int) + 1))) (.cells #[.int .i64 0, .int .i64 0, .slice none 0 0, .slice none 0 0, .slice none 0 0] 30); rw [hsz] at this; exact this, (hc 3 (by omega)).trans k3, (hc 4 (by omega)).trans k4, fun g o hg hl => ?_⟩
  exact (World.cell?_of_block (a := ⟨g, o, none⟩) (hb.block g hl)).trans (World.cell?_setCell_other _ _ _ _ (fun e => by injection e with e2 _ _; omega))
/-- It is kept where blocks from its end on are turned. -/
theorem NxK.on {w W W' : World} {G q i : Nat} (h : NxK w G q i W) (hb : Below w.heap.size W W') : NxK w G q i W' :=
  ⟨hb.os.trans h.os, hb.tape.trans h.tape, hb.output.trans h.output, Nat.le_trans h.size hb.size, fun b hb' => (hb.block b hb').trans (h.block b hb')⟩
theorem NxK.grown {w W : World} {G q i : Nat} (h : NxK w G q i W) : w.grownBy W (some G) :=
  ⟨h.os, h.tape, h.output, h.size, fun b hb hne => (h.block b hb).trans (set_blk9 w G (q + 5) b _ (fun e => hne (by rw [e])))⟩
section
variable {G q i : Nat} {A3 A4 : Option Addr} {m3 c3 m4 c4 : Nat} {w : World}
set_option maxHeartbeats 4000000 in
theorem nextEnd (h3 : m3 ≤ i) (h4 : m4 ≤ i) (hi : i ≤ 100000000) (hG : G < w.heap.size)
    (k3 : w.cell? ⟨G, q + 3, none⟩ = some (.slice A3 m3 c3)) (k4 : w.cell? ⟨G, q + 4, none⟩ = some (.slice A4 m4 c4)) (k5 : w.cell? ⟨G, q + 5, none⟩ = some (.int .i64 i)) (hf : ∀ j, w.frozen? ⟨G, j, none⟩ = false) :
    Calls Tryz.prog 128 #[.pointer (some ⟨G, q, none⟩)] w fun e w' => e = .returned (.tuple #[.agg #[.int .i64 0, .int .i64 0, nilV, nilV, nilV], .bool false]) ∧ NxK w G q i w' := by
  have hN := NxW.mk_ (i := i) hG k3 k4
  obtain ⟨W2, hW2⟩ : ∃ W2, (w.setCell ⟨G, q + 5, none⟩ (.int .i64 ((i : Int) + 1))).alloc (.cells #[.int .i64 0, .int .i64 0, .slice none 0 0, .slice none 0 0, .slice none 0 0] 30) = W2 := ⟨_, rfl⟩
  rw [hW2] at hN
  have HN := Lib.hid hN
  have HW2 := Lib.hid hW2
  clear hN hW2
  go_enter Tryz.func128, Tryz.ntmps128
  go_upto_region 3 with fail
  rw [HW2.out]
  clear k3 k4 k5 hf
  have q3 := HN.out.k3
  have q4 := HN.out.k4
  have n3 : ¬ (i : Int) < (m3 : Int) := by omega
  have n4 : ¬ (i : Int) < (m4 : Int) := by omega
  go_wp2_with (go_at_call 135; refine (pNone0 _).mono ?_; (rintro r w3 ⟨rfl, hb3⟩); have HB3 := Lib.hid hb3; have HR3 := Lib.hid ((hb3.block w.heap.size (by rw [HN.out.size1]; omega)).trans HN.out.row); (obtain ⟨z0, z1, z2, z3, z4, z5⟩ := row5_cells HR3.out); clear hb3 q3 q4)
  refine bodyPost_ret (results_row_tmp14 rfl _ _ w.heap.size 30 _ (0, 0) _ rfl (set5_row HR3.out) Tryz.underlying30 rfl (by kernel_rfl) _ rfl) rfl ?_
  exact ⟨rfl, HN.out.keep.on (below_set5 (HB3.out.mono (by rw [HN.out.size1]; omega)) (Nat.le_refl _))⟩
set_option maxHeartbeats 4000000 in
theorem nextL {g o : Nat} {e0 e1 e2 e3 e4 : Value} (h3 : i < m3) (hm : m3 ≤ 100000000) (hG : G < w.heap.size) (hA : A3 = some ⟨g, o, none⟩) (hg : g ≠ G ∧ g < w.heap.size)
    (k3 : w.cell? ⟨G, q + 3, none⟩ = some (.slice A3 m3 c3)) (k4 : w.cell? ⟨G, q + 4, none⟩ = some (.slice A4 m4 c4)) (k5 : w.cell? ⟨G, q + 5, none⟩ = some (.int .i64 i)) (hf : ∀ j, w.frozen? ⟨G, j, none⟩ = false)
    (s0 : w.cell? ⟨g, o + i * 5, none⟩ = some e0) (s1 : w.cell? ⟨g, o + i * 5 + 1, none⟩ = some e1) (s2 : w.cell? ⟨g, o + i * 5 + 2, none⟩ = some e2) (s3 : w.cell? ⟨g, o + i * 5 + 3, none⟩ = some e3) (s4 : w.cell? ⟨g, o + i * 5 + 4, none⟩ = some e4)
    {w0 : World} {S : Nat → Prop} {x : Ob} (hob : ObR w0 S x e0 e1 e2 e3 e4) :
    Calls Tryz.prog 128 #[.pointer (some ⟨G, q, none⟩)] w fun e w' => e = .returned (.tuple #[.agg #[e0, e1, e2, e3, e4], .bool true]) ∧ NxK w G q i w' := by
  have hN := NxW.mk_ (i := i) hG k3 k4
  obtain ⟨W2, hW2⟩ : ∃ W2, (w.setCell ⟨G, q + 5, none⟩ (.int .i64 ((i : Int) + 1))).alloc (.cells #[.int .i64 0, .int .i64 0, .slice none 0 0, .slice none 0 0, .slice none 0 0] 30) = W2 := ⟨_, rfl⟩
  rw [hW2] at hN
  subst hA
  have r0 := (hN.oth g (o + i * 5) hg.1 hg.2).trans s0
  have r1 := (hN.oth g (o + i * 5 + 1) hg.1 hg.2).trans s1
  have r2 := (hN.oth g (o + i * 5 + 2) hg.1 hg.2).trans s2
  have r3 := (hN.oth g (o + i * 5 + 3) hg.1 hg.2).trans s3
  have r4 := (hN.oth g (o + i * 5 + 4) hg.1 hg.2).trans s4
  have HN := Lib.hid hN
  have HW2 := Lib.hid hW2
  obtain ⟨k9, n9, A29, m29, c29, A39, m39, c39, A49, m49, c49, rfl, rfl, rfl, rfl, rfl⟩ := hob.form
  clear hob
  clear hN hW2 s0 s1 s2 s3 s4
  go_enter Tryz.func128, Tryz.ntmps128
  go_upto_region 3 with fail
  rw [HW2.out]
  clear k3 k4 k5 hf
  have q3 := HN.out.k3
  have n3 : (i : Int) < (m3 : Int) := by omega
  obtain ⟨z0, z1, z2, z3, z4, z5⟩ := row5_cells HN.out.row
  go_wp2_with fail
  refine bodyPost_ret (results_row_tmp14 rfl _ _ w.heap.size 30 _ (0, 0) _ rfl (set5_row HN.out.row) Tryz.underlying30 rfl (by kernel_rfl) _ rfl) rfl ?_
  exact ⟨rfl, HN.out.keep.on (below_set5 (Below.refl _ _) (Nat.le_refl _))⟩
set_option maxHeartbeats 4000000 in
theorem nextE {g o : Nat} {e0 e1 e2 e3 e4 : Value} (h3 : m3 ≤ i) (h4 : i < m4) (hm : m4 ≤ 100000000) (hG : G < w.heap.size) (hA : A4 = some ⟨g, o, none⟩) (hg : g ≠ G ∧ g < w.heap.size)
    (k3 : w.cell? ⟨G, q + 3, none⟩ = some (.slice A3 m3 c3)) (k4 : w.cell? ⟨G, q + 4, none⟩ = some (.slice A4 m4 c4)) (k5 : w.cell? ⟨G, q + 5, none⟩ = some (.int .i64 i)) (hf : ∀ j, w.frozen? ⟨G, j, none⟩ = false)
    (s0 : w.cell? ⟨g, o + i * 6 + 1, none⟩ = some e0) (s1 : w.cell? ⟨g, o + i * 6 + 2, none⟩ = some e1) (s2 : w.cell? ⟨g, o + i * 6 + 3, none⟩ = some e2) (s3 : w.cell? ⟨g, o + i * 6 + 4, none⟩ = some e3) (s4 : w.cell? ⟨g, o + i * 6 + 5, none⟩ = some e4)
    {w0 : World} {S : Nat → Prop} {x : Ob} (hob : ObR w0 S x e0 e1 e2 e3 e4) :
    Calls Tryz.prog 128 #[.pointer (some ⟨G, q, none⟩)] w fun e w' => e = .returned (.tuple #[.agg #[e0, e1, e2, e3, e4], .bool true]) ∧ NxK w G q i w' := by
  have hN := NxW.mk_ (i := i) hG k3 k4
  obtain ⟨W2, hW2⟩ : ∃ W2, (w.setCell ⟨G, q + 5, none⟩ (.int .i64 ((i : Int) + 1))).alloc (.cells #[.int .i64 0, .int .i64 0, .slice none 0 0, .slice none 0 0, .slice none 0 0] 30) = W2 := ⟨_, rfl⟩
  rw [hW2] at hN
  subst hA
  have r0 := (hN.oth g (o + i * 6 + 1) hg.1 hg.2).trans s0
  have r1 := (hN.oth g (o + i * 6 + 2) hg.1 hg.2).trans s1
  have r2 := (hN.oth g (o + i * 6 + 3) hg.1 hg.2).trans s2
  have r3 := (hN.oth g (o + i * 6 + 4) hg.1 hg.2).trans s3
  have r4 := (hN.oth g (o + i * 6 + 5) hg.1 hg.2).trans s4
  have HN := Lib.hid hN
  have HW2 := Lib.hid hW2
  obtain ⟨k9, n9, A29, m29, c29, A39, m39, c39, A49, m49, c49, rfl, rfl, rfl, rfl, rfl⟩ := hob.form
  clear hob
  clear hN hW2 s0 s1 s2 s3 s4
  go_enter Tryz.func128, Tryz.ntmps128
  go_upto_region 3 with fail
  rw [HW2.out]
  clear k3 k4 k5 hf
  have q3 := HN.out.k3
  have q4 := HN.out.k4
  have n3 : ¬ (i : Int) < (m3 : Int) := by omega
  have n4 : (i : Int) < (m4 : Int) := by omega
  obtain ⟨z0, z1, z2, z3, z4, z5⟩ := row5_cells HN.out.row
  go_wp2_with fail
  refine bodyPost_ret (results_row_tmp14 rfl _ _ w.heap.size 30 _ (0, 0) _ rfl (set5_row HN.out.row) Tryz.underlying30 rfl (by kernel_rfl) _ rfl) rfl ?_
  exact ⟨rfl, HN.out.keep.on (below_set5 (Below.refl _ _) (Nat.le_refl _))⟩
end
/-- What next does at a place: nothing is left, or the next part. -/
theorem fr_next {w0 : World} {S : Nat → Prop} {a : Nat} {f : Fr} (hf : FrR w0 S a f) (h0 : ∀ g, S g → g < w0.heap.size) :
    (f.ys = [] ∧ ∀ (wr : World) (G q : Nat), G < wr.heap.size → wr.cell? ⟨G, q + 3, none⟩ = some f.d3 → wr.cell? ⟨G, q + 4, none⟩ = some f.d4 → wr.cell? ⟨G, q + 5, none⟩ = some (.int .i64 f.i) → (∀ j, wr.frozen? ⟨G, j, none⟩ = false) →
      Calls Tryz.prog 128 #[.pointer (some ⟨G, q, none⟩)] wr fun e w' => e = .returned (.tuple #[.agg #[.int .i64 0, .int .i64 0, nilV, nilV, nilV], .bool false]) ∧ NxK wr G q f.i w')
    ∨ ∃ p y1 y2, f.ys = p :: (y1 ++ y2) ∧ p.a = a ∧ ObR w0 S p.x p.c0 p.c1 p.c2 p.c3 p.c4 ∧ (okO p.x ∧ a + htO p.x ≤ 100000000) ∧ WkO w0 S a p.x p.c3 p.c4 y1 ∧ FrR w0 S a { f with i := f.i + 1, ys := y2 } ∧
      ∀ (wr : World) (G q : Nat), (∀ g, S g → wr.heap[g]? = w0.heap[g]?) → (∀ g, S g → g ≠ G ∧ g < wr.heap.size) → G < wr.heap.size → wr.cell? ⟨G, q + 3, none⟩ = some f.d3 → wr.cell? ⟨G, q + 4, none⟩ = some f.d4 → wr.cell? ⟨G, q + 5, none⟩ = some (.int .i64 f.i) → (∀ j, wr.frozen? ⟨G, j, none⟩ = false) →
        Calls Tryz.prog 128 #[.pointer (some ⟨G, q, none⟩)] wr fun e w' => e = .returned (.tuple #[.agg #[p.c0, p.c1, p.c2, p.c3, p.c4], .bool true]) ∧ NxK wr G q f.i w' := by
  obtain ⟨d0, d1, d2, d3, d4, i, fy⟩ := f
  obtain ⟨A3, m3, c3, A4, m4, c4, hd3, hd4, hc3, hc4, hbd, hcase⟩ := hf
  dsimp only at hd3 hd4 hbd hcase ⊢
  subst hd3 hd4
  rcases hcase with ⟨h3, h4, rfl⟩ | ⟨l, g2, o, rfl, hl0, rfl, rfl, hg2, hwk⟩ | ⟨d, g2, o, rfl, hl0, rfl, rfl, hg2, hwk⟩
  · exact .inl ⟨rfl, fun wr G q hG k3 k4 k5 hfz => nextEnd h3 h4 hbd.2.2 hG k3 k4 k5 hfz⟩
  · obtain ⟨x, xs, y1, y2, p, rfl, rfl, hpa, hpx, hcl, hob, hok, hw1, hw2⟩ := wkL_one hwk hl0
    refine .inr ⟨p, y1, y2, rfl, hpa, by rw [hpx]; exact hob, by rw [hpx]; exact hok, by rw [hpx]; exact hw1, ?_, fun wr G q hold hS hG k3 k4 k5 hfz => ?_⟩
    · refine ⟨some ⟨g2, o, none⟩, _, c3, A4, 0, c4, rfl, rfl, hc3, hc4, ⟨hbd.1, by omega, by have := hbd.1; rw [Obs.len] at this; dsimp only; omega⟩, ?_⟩
      rcases Nat.eq_zero_or_pos xs.len with h0 | h0
      · have hn : xs = .nil := by cases xs with | nil => rfl | cons y ys => rw [Obs.len] at h0; omega
        subst hn
        unfold WkL at hw2
        exact .inl ⟨by rw [Obs.len, Obs.len]; dsimp only; omega, Nat.zero_le _, hw2⟩
      · refine .inr (.inl ⟨xs, g2, o, by rw [Obs.len]; dsimp only; omega, h0, rfl, rfl, hg2, ?_⟩)
        dsimp only
        rw [show o + (i + 1) * 5 = o + i * 5 + 5 by omega]
        exact hw2
    · have e := fun j => World.cell?_of_block (a := ⟨g2, j, none⟩) (hold g2 hg2)
      exact nextL (by rw [Obs.len]; omega) hbd.1 hG rfl (hS g2 hg2) k3 k4 k5 hfz ((e _).trans hcl.1) ((e _).trans hcl.2.1) ((e _).trans hcl.2.2.1) ((e _).trans hcl.2.2.2.1) ((e _).trans hcl.2.2.2.2) hob
  · obtain ⟨s, x, xs, y1, y2, p, rfl, rfl, hpa, hpx, hcl, hob, hok, hw1, hw2⟩ := wkE_one hwk hl0
    refine .inr ⟨p, y1, y2, rfl, hpa, by rw [hpx]; exact hob, by rw [hpx]; exact hok, by rw [hpx]; exact hw1, ?_, fun wr G q hold hS hG k3 k4 k5 hfz => ?_⟩
    · refine ⟨A3, 0, c3, some ⟨g2, o, none⟩, _, c4, rfl, rfl, hc3, hc4, ⟨by omega, hbd.2.1, by have := hbd.2.1; rw [Ens.len] at this; dsimp only; omega⟩, ?_⟩
      rcases Nat.eq_zero_or_pos xs.len with h0 | h0
      · have hn : xs = .nil := by cases xs with | nil => rfl | cons t y ys => rw [Ens.len] at h0; omega
        subst hn
        unfold WkE at hw2
        exact .inl ⟨Nat.zero_le _, by rw [Ens.len, Ens.len]; dsimp only; omega, hw2⟩
      · refine .inr (.inr ⟨xs, g2, o, by rw [Ens.len]; dsimp only; omega, h0, rfl, rfl, hg2, ?_⟩)
        dsimp only
        rw [show o + (i + 1) * 6 = o + i * 6 + 6 by omega]
        exact hw2
    · have e := fun j => World.cell?_of_block (a := ⟨g2, j, none⟩) (hold g2 hg2)
      exact nextE (Nat.zero_le _) (by rw [Ens.len]; omega) hbd.2.1 hG rfl (hS g2 hg2) k3 k4 k5 hfz ((e _).trans hcl.1) ((e _).trans hcl.2.1) ((e _).trans hcl.2.2.1) ((e _).trans hcl.2.2.2.1) ((e _).trans hcl.2.2.2.2) hob
end
end Go.Proofs.YtliieeagbpmcgaaGreatDoor
