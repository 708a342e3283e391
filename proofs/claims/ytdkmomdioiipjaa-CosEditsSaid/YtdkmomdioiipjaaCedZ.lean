/- CosEdits: entries set and dropped in turn: what it is then, what each key has; the one that was handed in stays. No condition on the input. -/
import Derived.Test.YtdkmomdioiipjaaCed27
namespace Go.Proofs.Ytdkmomdioiipjaa
open Go.ChangeShapes Go.WideShapes Go.ChangeAt Go.RowKit Go.Deep
set_option linter.unusedVariables false
set_option maxRecDepth 100000
/-- The argument that holds keys. -/
theorem open_keys {H : Type} {enc : TypeId × Value → H} {W : World} {base : Nat} {sp : Nat → Bool} {held : Bool} {A : Option Addr} {len cap : Nat} {d : DataW H} {p : List MemPlace} (h : DataW.Trod enc Try.prog W base sp held 47 (.slice A len cap) d p) (hsp : ∀ b, sp b = true) :
    ∃ ks : List ByteArray, ks.length = len ∧ KeysV W A ks ∧ ∀ t ∈ ks, t.size ≤ maxLen := by
  obtain ⟨fuel, hf⟩ := h
  obtain ⟨A', len', cap', e, hlc, hel⟩ := slice_els (size := 1) Try.underlying47 (by kernel_rfl) (by omega) hf
  injection e with e1 e2 e3
  subst e1 e2 e3
  rcases Nat.eq_zero_or_pos len with h0 | h0
  · exact ⟨[], h0.symm, (fun h => by simp at h), (fun t ht => by cases ht)⟩
  · obtain ⟨g, o, m, rfl, hg, _, hc⟩ := hel h0
    have one : ∀ i, i < len → ∃ s : ByteArray, W.cell? ⟨g, o + i, none⟩ = some (.string s) ∧ s.size ≤ maxLen := fun i hi => by
      obtain ⟨cs, y, h1, h2, h3⟩ := hc i hi
      obtain ⟨s, e, _, hs⟩ := DataW.trod_string Try.underlying9 h2
      have h4 := h3 0 (by omega)
      subst e
      refine ⟨s, ?_, hs⟩
      rw [show o + i = o + i * 1 + 0 by omega, h4]
      rfl
    have key : ∀ n o, (∀ i, i < n → ∃ s : ByteArray, W.cell? ⟨g, o + i, none⟩ = some (.string s) ∧ s.size ≤ maxLen) → ∃ ks : List ByteArray, ks.length = n ∧ (∀ i t, ks[i]? = some t → W.cell? ⟨g, o + i, none⟩ = some (.string t)) ∧ ∀ t ∈ ks, t.size ≤ maxLen := by
      intro n
      induction n with
      | zero => intro o _; exact ⟨[], rfl, (fun i t h => by simp at h), (fun t ht => by cases ht)⟩
      | succ n ih =>
        intro o h
        obtain ⟨s, hs, hz⟩ := h 0 (by omega)
        obtain ⟨ks, k1, k2, k3⟩ := ih (o + 1) (fun i hi => by
          have := h (i + 1) (by omega)
          rwa [show o + (i + 1) = o + 1 + i by omega] at this)
        refine ⟨s :: ks, by rw [List.length_cons, k1], fun i t hi => ?_, fun t ht => ?_⟩
        · cases i with
          | zero => simp at hi; subst hi; exact hs
          | succ i =>
            rw [List.getElem?_cons_succ] at hi
            rw [show o + (i + 1) = o + 1 + i by omega]
            exact k2 i t hi
        · rcases List.mem_cons.1 ht with rfl | ht
          · exact hz
          · exact k3 t ht
    obtain ⟨ks, k1, k2, k3⟩ := key len o one
    exact ⟨ks, k1, fun _ => ⟨g, o, rfl, hg, k2⟩, k3⟩
def OKP (l : Ens) (i : Nat) : Prop := ∀ j, j < i → ∀ s x, l.get? j = some (s, x) → s.size ≤ 300 ∧ roomO x 6 40 = true ∧ mayO x 28 = true
theorem okp_all {l : Ens} {w : World} {S : Nat → Prop} {A : Option Addr} {c : Nat} (h : OKP l l.len) (hl : EnsV w S l A c) : ∀ p ∈ l.toL, OkP p := fun p hp => by
  obtain ⟨i, hi⟩ := List.getElem?_of_mem hp
  have hlt := (List.getElem?_eq_some_iff.1 hi).1
  rw [Ens.toL_len] at hlt
  rw [Ens.toL_get] at hi
  obtain ⟨h1, h3, h2⟩ := h i hlt p.1 p.2 hi
  obtain ⟨g, o, _, _, hr⟩ := hl.2 (by omega)
  obtain ⟨c0, c1, c2, c3, c4, _, _, _, _, _, _, hxr⟩ := hr.get l g o i p.1 p.2 hi
  have := roomW 40 (by omega) p.2 c0 c1 c2 c3 c4 28 6 hxr h2 h3
  exact ⟨wdO_up (by omega) _ this.1, by have := this.2.1; omega, this.2.2, may_fit _ _ h2, by simp only [maxLen]; omega, may_kind h2⟩
/-- What each operation of the two regions leaves: two objects that are the same, each in its box. -/
def PrE (y : Ob) (ua ub la : Value) : Nat → (Nat → Value) → Zone → World → Prop
  | 0, V, _, _ => V 0 = ua
  | 1, V, _, _ => V 1 = la
  | 2, V, z, w => gotZ y (V 2) z w
  | 3, V, _, _ => V 3 = ub
  | 4, V, _, _ => V 4 = la
  | 5, V, z, w => gotZ y (V 5) z w
  | 6, V, z, w => boxZ (V 6) z w
  | 7, V, z, w => boxZ (V 7) z w
  | 8, V, z, w => heldZ (V 2) (V 6) z w
  | 9, V, z, w => heldZ (V 5) (V 7) z w
  | _, _, _, _ => True
def depE : Nat → List Nat
  | 8 => [6, 2]
  | 9 => [7, 5]
  | i => [i]
def eatE : Nat → Option Nat
  | 6 => some 8
  | 7 => some 9
  | _ => none
theorem locE (y : Ob) (ua ub la : Value) : ∀ i V V' z w, (∀ j ∈ depE i, V j = V' j) → PrE y ua ub la i V z w → PrE y ua ub la i V' z w := fun i V V' z w h hp => by
  match i with
  | 0 => have e := h 0 (List.mem_singleton.2 rfl); have hq : V 0 = ua := hp; rw [e] at hq; exact hq
  | 1 => have e := h 1 (List.mem_singleton.2 rfl); have hq : V 1 = la := hp; rw [e] at hq; exact hq
  | 2 => have e := h 2 (List.mem_singleton.2 rfl); have hq : gotZ y (V 2) z w := hp; rw [e] at hq; exact hq
  | 3 => have e := h 3 (List.mem_singleton.2 rfl); have hq : V 3 = ub := hp; rw [e] at hq; exact hq
  | 4 => have e := h 4 (List.mem_singleton.2 rfl); have hq : V 4 = la := hp; rw [e] at hq; exact hq
  | 5 => have e := h 5 (List.mem_singleton.2 rfl); have hq : gotZ y (V 5) z w := hp; rw [e] at hq; exact hq
  | 6 => have e := h 6 (List.mem_singleton.2 rfl); have hq : boxZ (V 6) z w := hp; rw [e] at hq; exact hq
  | 7 => have e := h 7 (List.mem_singleton.2 rfl); have hq : boxZ (V 7) z w := hp; rw [e] at hq; exact hq
  | 8 => have e := h 6 (List.mem_cons_self ..); have e2 := h 2 (List.mem_cons_of_mem _ (List.mem_singleton.2 rfl)); have hq : heldZ (V 2) (V 6) z w := hp; rw [e, e2] at hq; exact hq
  | 9 => have e := h 7 (List.mem_cons_self ..); have e2 := h 5 (List.mem_cons_of_mem _ (List.mem_singleton.2 rfl)); have hq : heldZ (V 5) (V 7) z w := hp; rw [e, e2] at hq; exact hq
  | _ + 10 => trivial
theorem selfE (L : Nat → Bool) (i : Nat) : ∀ j ∈ [i], j = i ∨ L j = true := fun j hj => .inl (List.mem_singleton.1 hj)
/-- What is left of such a region. -/
theorem endE {N : Nat} {W0 wx : World} {y : Ob} {ua ub la : Value} {Zo : Nat → Zone} {L : Nat → Bool} {V : Nat → Value} (hF : ZF N W0 (PrE y ua ub la) depE eatE Zo L V wx) (hall : ∀ j, j < 10 → L j = true) :
    (V 0 = ua ∧ V 1 = la ∧ V 3 = ub ∧ V 4 = la) ∧ ∃ d0 d1 d2 d3 d4 e0 e1 e2 e3 e4 bA bB, V 2 = .agg #[d0, d1, d2, d3, d4] ∧ V 5 = .agg #[e0, e1, e2, e3, e4] ∧ V 6 = .pointer (some ⟨bA, 0, none⟩) ∧ V 7 = .pointer (some ⟨bB, 0, none⟩)
      ∧ ObR wx (fun g => g < wx.heap.size) y d0 d1 d2 d3 d4 ∧ ObR wx (fun g => g < wx.heap.size) y e0 e1 e2 e3 e4
      ∧ wx.heap[bA]? = some (.cells #[d0, d1, d2, d3, d4] 27 (0, 0)) ∧ wx.heap[bB]? = some (.cells #[e0, e1, e2, e3, e4] 27 (0, 0)) := by
  have v0 : V 0 = ua := hF.get (hall 0 (by omega)) rfl
  have v1 : V 1 = la := hF.get (hall 1 (by omega)) rfl
  have v3 : V 3 = ub := hF.get (hall 3 (by omega)) rfl
  have v4 : V 4 = la := hF.get (hall 4 (by omega)) rfl
  obtain ⟨d0, d1, d2, d3, d4, v2, hxA⟩ : gotZ y (V 2) (Zo 2) wx := hF.get (hall 2 (by omega)) rfl
  obtain ⟨e0, e1, e2, e3, e4, v5, hxB⟩ : gotZ y (V 5) (Zo 5) wx := hF.get (hall 5 (by omega)) rfl
  obtain ⟨p0, p1, p2, p3, p4, u1, v6, hz8, hhA⟩ : heldZ (V 2) (V 6) (Zo 8) wx := hF.get (hall 8 (by omega)) rfl
  obtain ⟨q0, q1, q2, q3, q4, u2, v7, hz9, hhB⟩ : heldZ (V 5) (V 7) (Zo 9) wx := hF.get (hall 9 (by omega)) rfl
  rw [v2] at u1
  rw [v5] at u2
  injection u1 with u1
  injection u2 with u2
  simp only [Array.mk.injEq, List.cons.injEq, and_true] at u1 u2
  obtain ⟨rfl, rfl, rfl, rfl, rfl⟩ := u1
  obtain ⟨rfl, rfl, rfl, rfl, rfl⟩ := u2
  have r2 := (hF.rng 2 (hall 2 (by omega)) (fun c hc => by cases hc)).2.2
  have r5 := (hF.rng 5 (hall 5 (by omega)) (fun c hc => by cases hc)).2.2
  exact ⟨⟨v0, v1, v3, v4⟩, d0, d1, d2, d3, d4, e0, e1, e2, e3, e4, (Zo 8).1, (Zo 9).1, v2, v5, v6, v7, ObR.keep (fun _ _ => rfl) (fun g hg => by omega) _ hxA, ObR.keep (fun _ _ => rfl) (fun g hg => by omega) _ hxB, hhA, hhB⟩
set_option maxHeartbeats 16000000 in
theorem cedits_walk (x : Ob) (c0 c1 c2 c3 c4 : Value) (l : Ens) (A : Option Addr) (cap : Nat) (ks : List ByteArray) (AK : Option Addr) (cK : Nat) (w : World) (hx : ObR w (fun g => g < w.heap.size) x c0 c1 c2 c3 c4) (hl : EnsV w (fun g => g < w.heap.size) l A cap) (hk : KeysV w AK ks) (hks : ∀ t ∈ ks, t.size ≤ maxLen) :
    Calls Try.prog 5 #[.agg #[c0, c1, c2, c3, c4], .slice A l.len cap, .slice AK ks.length cK] w fun e w' => e = .returned (.bool true) ∧ Below w.heap.size w w' := by
  obtain ⟨k9, n9, A29, m29, c29, A39, m39, c39, A49, m49, c49, rfl, rfl, rfl, rfl, rfl⟩ := hx.form
  have hb1 := (Below.refl w.heap.size w).alloc (Nat.le_refl _) (.cells #[.int .i64 k9, .int .i64 n9, .slice A29 m29 c29, .slice A39 m39 c39, .slice A49 m49 c49] 27)
  have hn1 := heap_alloc_new w (.cells #[.int .i64 k9, .int .i64 n9, .slice A29 m29 c29, .slice A39 m39 c39, .slice A49 m49 c49] 27)
  have hs1 : (w.alloc (.cells #[.int .i64 k9, .int .i64 n9, .slice A29 m29 c29, .slice A39 m39 c39, .slice A49 m49 c49] 27)).heap.size = w.heap.size + 1 := by simp
  obtain ⟨W1, hW1⟩ : ∃ W1, w.alloc (.cells #[.int .i64 k9, .int .i64 n9, .slice A29 m29 c29, .slice A39 m39 c39, .slice A49 m49 c49] 27) = W1 := ⟨_, rfl⟩
  rw [hW1] at hb1 hn1 hs1
  have HX : Hid (∀ W, Below w.heap.size w W → ObR W (fun g => g < w.heap.size) x (.int .i64 k9) (.int .i64 n9) (.slice A29 m29 c29) (.slice A39 m39 c39) (.slice A49 m49 c49)) := Lib.hid (fun W hW => ObR.keep (fun g hg => hW.block g hg) (fun _ h => h) x hx)
  have HBW : Hid (∀ W, Below W1.heap.size W1 W → Below w.heap.size w W) := Lib.hid (fun W hW => hb1.trans (hW.mono (by omega)))
  have HEL : Hid (∀ W, Below W1.heap.size W1 W → W.cell? ⟨w.heap.size, 0, none⟩ = some (.int .i64 k9) ∧ W.cell? ⟨w.heap.size, 1, none⟩ = some (.int .i64 n9) ∧ W.cell? ⟨w.heap.size, 2, none⟩ = some (.slice A29 m29 c29) ∧ W.cell? ⟨w.heap.size, 3, none⟩ = some (.slice A39 m39 c39) ∧ W.cell? ⟨w.heap.size, 4, none⟩ = some (.slice A49 m49 c49)) := Lib.hid (fun W hW => by
    have e1 := (hW.block w.heap.size (by omega)).trans hn1
    exact ⟨cell_of_row _ _ 0 _ _ (0, 0) e1, cell_of_row _ _ 1 _ _ (0, 0) e1, cell_of_row _ _ 2 _ _ (0, 0) e1, cell_of_row _ _ 3 _ _ (0, 0) e1, cell_of_row _ _ 4 _ _ (0, 0) e1⟩)
  have HAW := Lib.hid (awake_any10 W1)
  have HMX0 := fun W (hW : Below W1.heap.size W1 W) => mayTopC x (fun g => g < w.heap.size) W _ _ _ _ _ (HX.out W (HBW.out W hW)) (fun g hg => Nat.lt_of_lt_of_le hg (HBW.out W hW).size)
  have HRX0 := fun W (hW : Below W1.heap.size W1 W) => roomC _ x (Nat.le_refl _) (fun g => g < w.heap.size) W _ _ _ _ _ 8 60 (HX.out W (HBW.out W hW)) (fun g hg => Nat.lt_of_lt_of_le hg (HBW.out W hW).size) (by omega)
  obtain ⟨MX, hMX⟩ : ∃ MX, mayO x 28 = MX := ⟨_, rfl⟩
  obtain ⟨RX, hRX⟩ : ∃ RX, roomO x 8 60 = RX := ⟨_, rfl⟩
  simp only [hMX] at HMX0
  simp only [hRX] at HRX0
  have HMX := Lib.hid HMX0
  have HRX := Lib.hid HRX0
  have HHX := Lib.hid hx
  have HHL := Lib.hid hl
  have HHK := Lib.hid (And.intro hk hks)
  have HW1 := Lib.hid hW1
  have HS1 := Lib.hid hs1
  obtain ⟨LL, hLL⟩ : ∃ LL, l.len = LL := ⟨_, rfl⟩
  obtain ⟨KK, hKK⟩ : ∃ KK, ks.length = KK := ⟨_, rfl⟩
  have HLL := Lib.hid hLL
  have HKK := Lib.hid hKK
  rw [hLL, hKK]
  clear HMX0 HRX0 hx hl hk hks hW1 hb1 hn1 hs1 hLL hKK
  go_enter Try.func5, Try.ntmps5
  go_upto_region 1 with fail
  rw [HW1.out]
  go_upto_region 3 with (go_at_call 8; (with_reducible refine HAW.out.mono ?_); (rintro r w0 ⟨rfl, hb0⟩); have HB := Lib.hid hb0; clear hb0)
  obtain ⟨q0, q1, q2, q3, q4⟩ := HEL.out _ HB.out
  cases MX
  · go_wp2_with (go_at_call 26; (with_reducible refine (HMX.out _ HB.out).mono ?_); (rintro r w3 ⟨rfl, hb3⟩); have HB' := Lib.hid (HB.out.trans (hb3.mono HB.out.size)); clear HB hb3 q0 q1 q2 q3 q4; have HB := HB'; clear HB'; (obtain ⟨q0, q1, q2, q3, q4⟩ := HEL.out _ HB.out))
    go_ret
    exact ⟨rfl, HBW.out _ HB.out⟩
  cases RX
  · go_wp2_with (first
      | (go_at_call 26; (with_reducible refine (HMX.out _ HB.out).mono ?_); (rintro r w3 ⟨rfl, hb3⟩); have HB' := Lib.hid (HB.out.trans (hb3.mono HB.out.size)); clear HB hb3 q0 q1 q2 q3 q4; have HB := HB'; clear HB'; (obtain ⟨q0, q1, q2, q3, q4⟩ := HEL.out _ HB.out))
      | (go_at_call 25; (with_reducible refine (HRX.out _ HB.out).mono ?_); (rintro r w5 ⟨rfl, hb3⟩); have HB' := Lib.hid (HB.out.trans (hb3.mono HB.out.size)); clear HB hb3 q0 q1 q2 q3 q4; have HB := HB'; clear HB'; (obtain ⟨q0, q1, q2, q3, q4⟩ := HEL.out _ HB.out)))
    go_ret
    exact ⟨rfl, HBW.out _ HB.out⟩
  by_cases hLb : 30 < LL
  · have i1 : (LL : Int) > 30 := by omega
    go_wp2_with (first
      | (go_at_call 26; (with_reducible refine (HMX.out _ HB.out).mono ?_); (rintro r w3 ⟨rfl, hb3⟩); have HB' := Lib.hid (HB.out.trans (hb3.mono HB.out.size)); clear HB hb3 q0 q1 q2 q3 q4; have HB := HB'; clear HB'; (obtain ⟨q0, q1, q2, q3, q4⟩ := HEL.out _ HB.out))
      | (go_at_call 25; (with_reducible refine (HRX.out _ HB.out).mono ?_); (rintro r w5 ⟨rfl, hb3⟩); have HB' := Lib.hid (HB.out.trans (hb3.mono HB.out.size)); clear HB hb3 q0 q1 q2 q3 q4; have HB := HB'; clear HB'; (obtain ⟨q0, q1, q2, q3, q4⟩ := HEL.out _ HB.out)))
    go_ret
    exact ⟨rfl, HBW.out _ HB.out⟩
  have i1 : ¬ (LL : Int) > 30 := by omega
  have HL30 : Hid (LL ≤ 30) := Lib.hid (by omega)
  clear hLb
  by_cases hKb : 30 < KK
  · have i2 : (KK : Int) > 30 := by omega
    go_wp2_with (first
      | (go_at_call 26; (with_reducible refine (HMX.out _ HB.out).mono ?_); (rintro r w3 ⟨rfl, hb3⟩); have HB' := Lib.hid (HB.out.trans (hb3.mono HB.out.size)); clear HB hb3 q0 q1 q2 q3 q4; have HB := HB'; clear HB'; (obtain ⟨q0, q1, q2, q3, q4⟩ := HEL.out _ HB.out))
      | (go_at_call 25; (with_reducible refine (HRX.out _ HB.out).mono ?_); (rintro r w5 ⟨rfl, hb3⟩); have HB' := Lib.hid (HB.out.trans (hb3.mono HB.out.size)); clear HB hb3 q0 q1 q2 q3 q4; have HB := HB'; clear HB'; (obtain ⟨q0, q1, q2, q3, q4⟩ := HEL.out _ HB.out)))
    go_ret
    exact ⟨rfl, HBW.out _ HB.out⟩
  have i2 : ¬ (KK : Int) > 30 := by omega
  have HK30 : Hid (KK ≤ 30) := Lib.hid (by omega)
  clear hKb
  go_wp2_with (first
    | (go_at_call 26; (with_reducible refine (HMX.out _ HB.out).mono ?_); (rintro r w3 ⟨rfl, hb3⟩); have HB' := Lib.hid (HB.out.trans (hb3.mono HB.out.size)); clear HB hb3 q0 q1 q2 q3 q4; have HB := HB'; clear HB'; (obtain ⟨q0, q1, q2, q3, q4⟩ := HEL.out _ HB.out))
    | (go_at_call 25; (with_reducible refine (HRX.out _ HB.out).mono ?_); (rintro r w5 ⟨rfl, hb3⟩); have HB' := Lib.hid (HB.out.trans (hb3.mono HB.out.size)); clear HB hb3 q0 q1 q2 q3 q4; have HB := HB'; clear HB'; (obtain ⟨q0, q1, q2, q3, q4⟩ := HEL.out _ HB.out)))
  clear i1 i2 q0 q1 q2 q3 q4
  have HBS := HB
  go_loopw [7] (fun iv wr => ∃ (i : Nat), i ≤ LL ∧ iv = .int .i64 i ∧ Hid (OKP l i) ∧ Hid (Below W1.heap.size W1 wr)) (fun iv _ => LL - (intOf iv).toNat)
  case atStart => exact ⟨0, Nat.zero_le _, rfl, Lib.hid (fun j h => absurd h (by omega)), HB⟩
  case round =>
    clear HB
    obtain ⟨i, hi, rfl, HOK, HBE⟩ := hrel
    by_cases hlt : i < LL
    · obtain ⟨sy, y, hy⟩ := l.get_some i (by rw [HLL.out]; exact hlt)
      obtain ⟨g, o, rfl, hg, hobs⟩ := HHL.out.2 (by rw [HLL.out]; omega)
      obtain ⟨d0, d1, d2, d3, d4, kx, k0, k1, k2, k3, k4, hyr⟩ := hobs.get l g o i sy y hy
      have HK : Hid (∀ W, Below W1.heap.size W1 W → W.cell? ⟨g, o + i * 6, none⟩ = some (.string sy) ∧ W.cell? ⟨g, o + i * 6 + 1, none⟩ = some d0 ∧ W.cell? ⟨g, o + i * 6 + 2, none⟩ = some d1 ∧ W.cell? ⟨g, o + i * 6 + 3, none⟩ = some d2 ∧ W.cell? ⟨g, o + i * 6 + 4, none⟩ = some d3 ∧ W.cell? ⟨g, o + i * 6 + 5, none⟩ = some d4) := Lib.hid (fun W hW => by
        have e := fun j => World.cell?_of_block (a := ⟨g, j, none⟩) ((HBW.out W hW).block g hg)
        exact ⟨(e _).trans kx, (e _).trans k0, (e _).trans k1, (e _).trans k2, (e _).trans k3, (e _).trans k4⟩)
      have HYR : Hid (∀ W, Below W1.heap.size W1 W → ObR W (fun g => g < w.heap.size) y d0 d1 d2 d3 d4) := Lib.hid (fun W hW => ObR.keep (fun b hb => (HBW.out W hW).block b hb) (fun _ h => h) y hyr)
      have HRM0 := fun W (hW : Below W1.heap.size W1 W) => roomC _ y (Nat.le_refl _) (fun g => g < w.heap.size) W d0 d1 d2 d3 d4 6 40 (HYR.out W hW) (fun g hg => Nat.lt_of_lt_of_le hg (HBW.out W hW).size) (by omega)
      have HMY0 := fun W (hW : Below W1.heap.size W1 W) => mayTopC y (fun g => g < w.heap.size) W d0 d1 d2 d3 d4 (HYR.out W hW) (fun g hg => Nat.lt_of_lt_of_le hg (HBW.out W hW).size)
      obtain ⟨RM, hRM⟩ : ∃ RM, roomO y 6 40 = RM := ⟨_, rfl⟩
      obtain ⟨MY, hMY⟩ : ∃ MY, mayO y 28 = MY := ⟨_, rfl⟩
      simp only [hRM] at HRM0
      simp only [hMY] at HMY0
      have HRM := Lib.hid HRM0
      have HMY := Lib.hid HMY0
      have hli : (i : Int) < LL := by omega
      obtain ⟨m0, m1, m2, m3, m4, m5⟩ := HK.out wr HBE.out
      have HHY := Lib.hid hy
      have HRR := Lib.hid (And.intro hRM hMY)
      clear HRM0 HMY0 hRM hMY hy hobs hyr hg kx k0 k1 k2 k3 k4 HYR
      by_cases hk : 300 < sy.size
      · have ik : (sy.size : Int) > 300 := by omega
        go_wp2_with fail
        go_ret
        exact ⟨rfl, HBW.out _ HBE.out⟩
      have ik : ¬ (sy.size : Int) > 300 := by omega
      have HSZ : Hid (sy.size ≤ 300) := Lib.hid (by omega)
      clear hk
      cases RM
      · go_wp2_with (go_at_call 25; refine (HRM.out _ HBE.out).mono ?_; (rintro r w4 ⟨rfl, hb4⟩); have HB4 := Lib.hid (HBE.out.trans (hb4.mono HBE.out.size)); clear hb4)
        go_ret
        exact ⟨rfl, HBW.out _ HB4.out⟩
      cases MY
      · go_wp2_with (first
          | (go_at_call 25; refine (HRM.out _ HBE.out).mono ?_; (rintro r w4 ⟨rfl, hb4⟩); have HB4 := Lib.hid (HBE.out.trans (hb4.mono HBE.out.size)); obtain ⟨p0, p1, p2, p3, p4, p5⟩ := HK.out _ HB4.out; clear hb4 m0 m1 m2 m3 m4 m5)
          | (go_at_call 26; refine (HMY.out _ HB4.out).mono ?_; (rintro r w5 ⟨rfl, hb5⟩); have HB5 := Lib.hid (HB4.out.trans (hb5.mono HB4.out.size)); clear hb5))
        go_ret
        exact ⟨rfl, HBW.out _ HB5.out⟩
      have HNX : Hid (OKP l (i + 1)) := Lib.hid (fun j hj s x hx => by
        rcases Nat.lt_or_ge j i with h | h
        · exact HOK.out j h s x hx
        · obtain rfl : j = i := by omega
          rw [HHY.out] at hx
          injection hx with hx
          injection hx with hx1 hx2
          subst hx1 hx2
          exact ⟨HSZ.out, HRR.out⟩)
      go_wp2_with (first
        | (go_at_call 25; refine (HRM.out _ HBE.out).mono ?_; (rintro r w4 ⟨rfl, hb4⟩); have HB4 := Lib.hid (HBE.out.trans (hb4.mono HBE.out.size)); obtain ⟨p0, p1, p2, p3, p4, p5⟩ := HK.out _ HB4.out; clear hb4 m0 m1 m2 m3 m4 m5)
        | (go_at_call 26; refine (HMY.out _ HB4.out).mono ?_; (rintro r w5 ⟨rfl, hb5⟩); have HB5 := Lib.hid (HB4.out.trans (hb5.mono HB4.out.size)); clear hb5))
      go_roundw
      case rel => exact ⟨i + 1, by omega, by go_num, HNX, HB5⟩
      case measure => simp [intOf]; omega
    · obtain rfl : LL = i := by omega
      clear hlt
      have hok := HOK.out
      rw [← HLL.out] at hok
      have HOX := Lib.hid (okx_may HHX.out hMX hRX)
      have HLK := Lib.hid (okp_all hok HHL.out)
      clear hok hMX hRX HMX HRX HAW HOK
      have HCF := Lib.hid (fun W (hW : Below W1.heap.size W1 W) => copyC _ x (Nat.le_refl _) HOX.out.1.ok (fun g => g < w.heap.size) W _ _ _ _ _ (HX.out W (HBW.out W hW)) (fun g hg => Nat.lt_of_lt_of_le hg (HBW.out W hW).size))
      obtain ⟨q0, q1, q2, q3, q4⟩ := HEL.out _ HBE.out
      go_upto_region 11 with (go_at_call 29; (with_reducible refine (HCF.out _ HBE.out).mono ?_); (rintro r w7 ⟨f0, f1, f2, f3, f4, rfl, hd, hb7⟩); (obtain ⟨kc, nc, AB, mB, cB, AL, mL, cL, AD, mD, cD, rfl, rfl, rfl, rfl, rfl⟩ := hd.form); have HD := Lib.hid hd; have HB := Lib.hid (HBE.out.trans (hb7.mono HBE.out.size)); clear hd hb7 q0 q1 q2 q3 q4)
      have hb8 := (Below.refl w7.heap.size w7).alloc (Nat.le_refl _) (.cells #[.int .i64 kc, .int .i64 nc, .slice AB mB cB, .slice AL mL cL, .slice AD mD cD] 27)
      have hn8 := heap_alloc_new w7 (.cells #[.int .i64 kc, .int .i64 nc, .slice AB mB cB, .slice AL mL cL, .slice AD mD cD] 27)
      have hs8 : (w7.alloc (.cells #[.int .i64 kc, .int .i64 nc, .slice AB mB cB, .slice AL mL cL, .slice AD mD cD] 27)).heap.size = w7.heap.size + 1 := by simp
      obtain ⟨W8, hW8⟩ : ∃ W8, w7.alloc (.cells #[.int .i64 kc, .int .i64 nc, .slice AB mB cB, .slice AL mL cL, .slice AD mD cD] 27) = W8 := ⟨_, rfl⟩
      rw [hW8] at hb8 hn8 hs8 ⊢
      have HB8 : Hid (∀ W, Below W8.heap.size W8 W → Below W1.heap.size W1 W) := Lib.hid (fun W hW => HB.out.trans ((hb8.trans (hW.mono (by omega))).mono HB.out.size))
      have HWS : Hid (w.heap.size ≤ W8.heap.size) := Lib.hid (HBW.out W8 (HB8.out W8 (Below.refl _ _))).size
      have HC8 : Hid (∀ W, Below W8.heap.size W8 W → ObR W (fun g => g < W8.heap.size) x (.int .i64 kc) (.int .i64 nc) (.slice AB mB cB) (.slice AL mL cL) (.slice AD mD cD)) := Lib.hid (fun W hW => ObR.keep (fun g hg => (hW.block g (by have := hg.2; omega)).trans (hb8.block g hg.2)) (fun g hg => by have := hg.2; omega) _ HD.out)
      have HX8 : Hid (∀ W, Below W8.heap.size W8 W → ObR W (fun g => g < W8.heap.size) x (.int .i64 k9) (.int .i64 n9) (.slice A29 m29 c29) (.slice A39 m39 c39) (.slice A49 m49 c49)) := Lib.hid (fun W hW => ObR.keep (fun _ _ => rfl) (fun g hg => Nat.lt_of_lt_of_le hg HWS.out) _ (HX.out W (HBW.out W (HB8.out W hW))))
      have HEN : Hid (∀ W, Below W8.heap.size W8 W → EnsV W (fun g => g < W8.heap.size) l A cap) := Lib.hid (fun W hW => HHL.out.keep (fun g hg => (HBW.out W (HB8.out W hW)).block g hg) (fun g hg => Nat.lt_of_lt_of_le hg HWS.out))
      have HKV : Hid (∀ W, Below W8.heap.size W8 W → KeysV W AK ks) := Lib.hid (fun W hW => HHK.out.1.below (HBW.out W (HB8.out W hW)))
      have HE8 : Hid (∀ W, Below W8.heap.size W8 W → W.cell? ⟨w.heap.size, 0, none⟩ = some (.int .i64 k9) ∧ W.cell? ⟨w.heap.size, 1, none⟩ = some (.int .i64 n9) ∧ W.cell? ⟨w.heap.size, 2, none⟩ = some (.slice A29 m29 c29) ∧ W.cell? ⟨w.heap.size, 3, none⟩ = some (.slice A39 m39 c39) ∧ W.cell? ⟨w.heap.size, 4, none⟩ = some (.slice A49 m49 c49) ∧ W.cell? ⟨w7.heap.size, 0, none⟩ = some (.int .i64 kc) ∧ W.cell? ⟨w7.heap.size, 1, none⟩ = some (.int .i64 nc) ∧ W.cell? ⟨w7.heap.size, 2, none⟩ = some (.slice AB mB cB) ∧ W.cell? ⟨w7.heap.size, 3, none⟩ = some (.slice AL mL cL) ∧ W.cell? ⟨w7.heap.size, 4, none⟩ = some (.slice AD mD cD)) := Lib.hid (fun W hW => by
        obtain ⟨q0, q1, q2, q3, q4⟩ := HEL.out W (HB8.out W hW)
        have e1 := (hW.block w7.heap.size (by omega)).trans hn8
        exact ⟨q0, q1, q2, q3, q4, cell_of_row _ _ 0 _ _ (0, 0) e1, cell_of_row _ _ 1 _ _ (0, 0) e1, cell_of_row _ _ 2 _ _ (0, 0) e1, cell_of_row _ _ 3 _ _ (0, 0) e1, cell_of_row _ _ 4 _ _ (0, 0) e1⟩)
      have HOS : Hid (OkX (setO l x)) := Lib.hid (okx_set l HOX.out.1 HLK.out (fun k n b lo d e => by have h1 := HOX.out.2 k n b lo d e; have h2 := HL30.out; have h3 := HLL.out; omega))
      have HD1 : Hid (∀ W, Below W8.heap.size W8 W → Calls Try.prog 30 #[.agg #[.int .i64 k9, .int .i64 n9, .slice A29 m29 c29, .slice A39 m39 c39, .slice A49 m49 c49], .slice A LL cap] W (CpP W (setO l x))) := Lib.hid (fun W hW => by
        have h := pSetU HOX.out.1 HLK.out (by rw [HLL.out]; exact HL30.out) (HX8.out W hW) (fun g hg => Nat.lt_of_lt_of_le hg hW.size) (HEN.out W hW) (fun g hg => Nat.lt_of_lt_of_le hg hW.size)
        rw [HLL.out] at h; exact h)
      have HD2 : Hid (∀ W, Below W8.heap.size W8 W → Calls Try.prog 31 #[.agg #[.int .i64 k9, .int .i64 n9, .slice A29 m29 c29, .slice A39 m39 c39, .slice A49 m49 c49], .slice A LL cap] W (CpP W (setO l x))) := Lib.hid (fun W hW => by
        have h := rSetU HOX.out.1 HLK.out (by rw [HLL.out]; exact HL30.out) (HX8.out W hW) (fun g hg => Nat.lt_of_lt_of_le hg hW.size) (HEN.out W hW) (fun g hg => Nat.lt_of_lt_of_le hg hW.size)
        rw [HLL.out] at h; exact h)
      have HSW : Hid (∀ W, Below W8.heap.size W8 W → Calls Try.prog 34 #[.agg #[.int .i64 k9, .int .i64 n9, .slice A29 m29 c29, .slice A39 m39 c39, .slice A49 m49 c49], .agg #[.int .i64 kc, .int .i64 nc, .slice AB mB cB, .slice AL mL cL, .slice AD mD cD]] W fun r w' => r = .returned (.bool true) ∧ Below W.heap.size W w') := Lib.hid (fun W hW => same_yes x W (ObR.keep (fun _ _ => rfl) (fun g hg => Nat.lt_of_lt_of_le hg hW.size) _ (HX8.out W hW)) (ObR.keep (fun _ _ => rfl) (fun g hg => Nat.lt_of_lt_of_le hg hW.size) _ (HC8.out W hW)))
      obtain ⟨X1, hX1⟩ : ∃ X1, setO l x = X1 := ⟨_, rfl⟩
      rw [hX1] at HOS HD1 HD2
      clear hX1 hb8 hn8 hs8 hW8 HD HCF HBE HX8 HC8 HEN HEL
      have loc := locE X1 (.agg #[.int .i64 k9, .int .i64 n9, .slice A29 m29 c29, .slice A39 m39 c39, .slice A49 m49 c49]) (.agg #[.int .i64 k9, .int .i64 n9, .slice A29 m29 c29, .slice A39 m39 c39, .slice A49 m49 c49]) (.slice A LL cap)
      refine wp_region_Z W8.heap.size (PrE (X1) (.agg #[.int .i64 k9, .int .i64 n9, .slice A29 m29 c29, .slice A39 m39 c39, .slice A49 m49 c49]) (.agg #[.int .i64 k9, .int .i64 n9, .slice A29 m29 c29, .slice A39 m39 c39, .slice A49 m49 c49]) (.slice A LL cap)) depE eatE rfl (by kernel_rfl) (by kernel_rfl) (by kernel_rfl) ?_ ?_
      · intro Zo L V wx i o a ho hi hdep hF hA
        have hlt : i < 10 := (List.getElem?_eq_some_iff.1 ho).1
        obtain ⟨q0, q1, q2, q3, q4, q5, q6, q7, q8, q9⟩ := HE8.out wx hF.low
        obtain rfl | rfl | rfl | rfl | rfl | rfl | rfl | rfl | rfl | rfl : i = 0 ∨ i = 1 ∨ i = 2 ∨ i = 3 ∨ i = 4 ∨ i = 5 ∨ i = 6 ∨ i = 7 ∨ i = 8 ∨ i = 9 := by omega
        · cases ho
          have e := hA.ev0 (k := 3) (by kernel_rfl) rfl
          exact wpOp_valueV (v := .agg #[.int .i64 k9, .int .i64 n9, .slice A29 m29 c29, .slice A39 m39 c39, .slice A49 m49 c49]) (w' := wx) rfl rfl (by go_simp) ⟨_, _, rfl, hF.pure loc rfl hi (selfE L _) (Stab.const rfl)⟩
        · cases ho
          have e := hA.ev0 (k := 1) (by kernel_rfl) rfl
          exact wpOp_valueV (v := .slice A LL cap) (w' := wx) rfl rfl (by go_simp) ⟨_, _, rfl, hF.pure loc rfl hi (selfE L _) (Stab.const rfl)⟩
        · cases ho
          have l0 := hdep ⟨0, .data⟩ (by simp) rfl
          have l1 := hdep ⟨1, .data⟩ (by simp) rfl
          have e := hA.ev (j := 0) rfl rfl l0
          have e2 := hA.ev (j := 1) rfl rfl l1
          rw [show V 0 = .agg #[.int .i64 k9, .int .i64 n9, .slice A29 m29 c29, .slice A39 m39 c39, .slice A49 m49 c49] from hF.get l0 rfl] at e
          rw [show V 1 = .slice A LL cap from hF.get l1 rfl] at e2
          refine wpOp_enterV (f := 30) (args := #[.agg #[.int .i64 k9, .int .i64 n9, .slice A29 m29 c29, .slice A39 m39 c39, .slice A49 m49 c49], .slice A LL cap]) rfl rfl (by go_simp) (HD1.out wx hF.low) ?_
          rintro r w' ⟨d0, d1, d2, d3, d4, rfl, hd, hb⟩
          exact ⟨_, rfl, _, _, rfl, hF.make loc rfl hi (selfE L _) hb (gotZ.stab ⟨_, _, _, _, _, rfl, hd⟩ (Nat.le_refl _))⟩
        · cases ho
          have e := hA.ev0 (k := 3) (by kernel_rfl) rfl
          exact wpOp_valueV (v := .agg #[.int .i64 k9, .int .i64 n9, .slice A29 m29 c29, .slice A39 m39 c39, .slice A49 m49 c49]) (w' := wx) rfl rfl (by go_simp) ⟨_, _, rfl, hF.pure loc rfl hi (selfE L _) (Stab.const rfl)⟩
        · cases ho
          have e := hA.ev0 (k := 1) (by kernel_rfl) rfl
          exact wpOp_valueV (v := .slice A LL cap) (w' := wx) rfl rfl (by go_simp) ⟨_, _, rfl, hF.pure loc rfl hi (selfE L _) (Stab.const rfl)⟩
        · cases ho
          have l0 := hdep ⟨3, .data⟩ (by simp) rfl
          have l1 := hdep ⟨4, .data⟩ (by simp) rfl
          have e := hA.ev (j := 3) rfl rfl l0
          have e2 := hA.ev (j := 4) rfl rfl l1
          rw [show V 3 = .agg #[.int .i64 k9, .int .i64 n9, .slice A29 m29 c29, .slice A39 m39 c39, .slice A49 m49 c49] from hF.get l0 rfl] at e
          rw [show V 4 = .slice A LL cap from hF.get l1 rfl] at e2
          refine wpOp_enterV (f := 31) (args := #[.agg #[.int .i64 k9, .int .i64 n9, .slice A29 m29 c29, .slice A39 m39 c39, .slice A49 m49 c49], .slice A LL cap]) rfl rfl (by go_simp) (HD2.out wx hF.low) ?_
          rintro r w' ⟨d0, d1, d2, d3, d4, rfl, hd, hb⟩
          exact ⟨_, rfl, _, _, rfl, hF.make loc rfl hi (selfE L _) hb (gotZ.stab ⟨_, _, _, _, _, rfl, hd⟩ (Nat.le_refl _))⟩
        · cases ho
          exact wpOp_valueV (v := .pointer (some ⟨wx.heap.size, 0, none⟩)) (w' := wx.alloc (.cells #[.int .i64 0, .int .i64 0, .slice none 0 0, .slice none 0 0, .slice none 0 0] 27)) rfl rfl (by go_simp) ⟨_, _, rfl, hF.make loc rfl hi (selfE L _) ((Below.refl _ _).alloc (Nat.le_refl _) _) (boxZ.stab ⟨rfl, by simp, _, _, _, _, _, heap_alloc_new wx _⟩)⟩
        · cases ho
          exact wpOp_valueV (v := .pointer (some ⟨wx.heap.size, 0, none⟩)) (w' := wx.alloc (.cells #[.int .i64 0, .int .i64 0, .slice none 0 0, .slice none 0 0, .slice none 0 0] 27)) rfl rfl (by go_simp) ⟨_, _, rfl, hF.make loc rfl hi (selfE L _) ((Below.refl _ _).alloc (Nat.le_refl _) _) (boxZ.stab ⟨rfl, by simp, _, _, _, _, _, heap_alloc_new wx _⟩)⟩
        · cases ho
          have lb := hdep ⟨6, .data⟩ (by simp) rfl
          have lv := hdep ⟨2, .data⟩ (by simp) rfl
          have e := hA.ev (j := 6) rfl rfl lb
          have e2 := hA.ev (j := 2) rfl rfl lv
          obtain ⟨hv, hlz, z0, z1, z2, z3, z4, hh⟩ : boxZ (V 6) (Zo 6) wx := hF.getE lb rfl hi
          obtain ⟨d0, d1, d2, d3, d4, hv2, hob⟩ : gotZ (X1) (V 2) (Zo 2) wx := hF.get lv rfl
          have hfill := fun W' hW' => hF.fill (W' := W') loc rfl hi (fun j hj => .inr (by rcases List.mem_cons.1 hj with rfl | hj; exact lb; rw [List.mem_singleton.1 hj]; exact lv)) rfl lb (b := (Zo 6).1) (d0 := d0) (d1 := d1) (d2 := d2) (d3 := d3) (d4 := d4) hW' ⟨rfl, hlz, z0, z1, z2, z3, z4, hh⟩ (fun z w2 h => by (have h2 := h; rw [← hv2, ← hv] at h2); exact h2)
          rw [hv] at e
          rw [hv2] at e2
          obtain ⟨y0, y1, y2, y3, y4, y5⟩ := row5_cells hh
          obtain ⟨k, n2, A2, m2, g2, A3, m3, g3, A4, m4, g4, rfl, rfl, rfl, rfl, rfl⟩ := hob.form
          obtain ⟨gb, hgb⟩ : ∃ gb, (Zo 6).1 = gb := ⟨_, rfl⟩
          rw [hgb] at hfill e y0 y1 y2 y3 y4 y5
          exact wpOp_skipV rfl rfl (by go_simp) ⟨undef, _, rfl, hfill _ rfl⟩
        · cases ho
          have lb := hdep ⟨7, .data⟩ (by simp) rfl
          have lv := hdep ⟨5, .data⟩ (by simp) rfl
          have e := hA.ev (j := 7) rfl rfl lb
          have e2 := hA.ev (j := 5) rfl rfl lv
          obtain ⟨hv, hlz, z0, z1, z2, z3, z4, hh⟩ : boxZ (V 7) (Zo 7) wx := hF.getE lb rfl hi
          obtain ⟨d0, d1, d2, d3, d4, hv2, hob⟩ : gotZ (X1) (V 5) (Zo 5) wx := hF.get lv rfl
          have hfill := fun W' hW' => hF.fill (W' := W') loc rfl hi (fun j hj => .inr (by rcases List.mem_cons.1 hj with rfl | hj; exact lb; rw [List.mem_singleton.1 hj]; exact lv)) rfl lb (b := (Zo 7).1) (d0 := d0) (d1 := d1) (d2 := d2) (d3 := d3) (d4 := d4) hW' ⟨rfl, hlz, z0, z1, z2, z3, z4, hh⟩ (fun z w2 h => by (have h2 := h; rw [← hv2, ← hv] at h2); exact h2)
          rw [hv] at e
          rw [hv2] at e2
          obtain ⟨y0, y1, y2, y3, y4, y5⟩ := row5_cells hh
          obtain ⟨k, n2, A2, m2, g2, A3, m3, g3, A4, m4, g4, rfl, rfl, rfl, rfl, rfl⟩ := hob.form
          obtain ⟨gb, hgb⟩ : ∃ gb, (Zo 7).1 = gb := ⟨_, rfl⟩
          rw [hgb] at hfill e y0 y1 y2 y3 y4 y5
          exact wpOp_skipV rfl rfl (by go_simp) ⟨undef, _, rfl, hfill _ rfl⟩
      intro Zo L V wx hall hF
      obtain ⟨⟨v0, v1, v3, v4⟩, d0, d1, d2, d3, d4, e0, e1, e2, e3, e4, bA, bB, v2, v5, v6, v7, hxA, hxB, hhA, hhB⟩ := endE hF hall
      have HBX : Hid (Below W8.heap.size W8 wx) := Lib.hid hF.low
      simp only [putsF, Act.put, List.setIfInBounds_toArray, List.set_cons_zero, List.set_cons_succ, Nat.zero_add, Nat.reduceAdd]
      rw [v0, v1, v3, v4, v2, v5, v6, v7]
      clear v0 v1 v3 v4 v2 v5 v6 v7 hF hall loc HD1 HD2
      obtain ⟨kA, nA, AA2, mA2, cA2, AA3, mA3, cA3, AA4, mA4, cA4, rfl, rfl, rfl, rfl, rfl⟩ := hxA.form
      obtain ⟨kB, nB, AB2, mB2, cB2, AB3, mB3, cB3, AB4, mB4, cB4, rfl, rfl, rfl, rfl, rfl⟩ := hxB.form
      have HXA : Hid (∀ W, Below wx.heap.size wx W → ObR W (fun g => g < wx.heap.size) X1 (.int .i64 kA) (.int .i64 nA) (.slice AA2 mA2 cA2) (.slice AA3 mA3 cA3) (.slice AA4 mA4 cA4)) := Lib.hid (fun W hW => ObR.keep (fun g hg => hW.block g hg) (fun _ h => h) _ hxA)
      have HXB : Hid (∀ W, Below wx.heap.size wx W → ObR W (fun g => g < wx.heap.size) X1 (.int .i64 kB) (.int .i64 nB) (.slice AB2 mB2 cB2) (.slice AB3 mB3 cB3) (.slice AB4 mB4 cB4)) := Lib.hid (fun W hW => ObR.keep (fun g hg => hW.block g hg) (fun _ h => h) _ hxB)
      have HB9 : Hid (∀ W, Below wx.heap.size wx W → Below W8.heap.size W8 W) := Lib.hid (fun W hW => HBX.out.trans (hW.mono HBX.out.size))
      have HE9 : Hid (∀ W, Below wx.heap.size wx W → (W.cell? ⟨w.heap.size, 0, none⟩ = some (.int .i64 k9) ∧ W.cell? ⟨w.heap.size, 1, none⟩ = some (.int .i64 n9) ∧ W.cell? ⟨w.heap.size, 2, none⟩ = some (.slice A29 m29 c29) ∧ W.cell? ⟨w.heap.size, 3, none⟩ = some (.slice A39 m39 c39) ∧ W.cell? ⟨w.heap.size, 4, none⟩ = some (.slice A49 m49 c49) ∧ W.cell? ⟨w7.heap.size, 0, none⟩ = some (.int .i64 kc) ∧ W.cell? ⟨w7.heap.size, 1, none⟩ = some (.int .i64 nc) ∧ W.cell? ⟨w7.heap.size, 2, none⟩ = some (.slice AB mB cB) ∧ W.cell? ⟨w7.heap.size, 3, none⟩ = some (.slice AL mL cL) ∧ W.cell? ⟨w7.heap.size, 4, none⟩ = some (.slice AD mD cD)) ∧ W.cell? ⟨bA, 0, none⟩ = some (.int .i64 kA) ∧ W.cell? ⟨bA, 1, none⟩ = some (.int .i64 nA) ∧ W.cell? ⟨bA, 2, none⟩ = some (.slice AA2 mA2 cA2) ∧ W.cell? ⟨bA, 3, none⟩ = some (.slice AA3 mA3 cA3) ∧ W.cell? ⟨bA, 4, none⟩ = some (.slice AA4 mA4 cA4) ∧ W.cell? ⟨bB, 0, none⟩ = some (.int .i64 kB) ∧ W.cell? ⟨bB, 1, none⟩ = some (.int .i64 nB) ∧ W.cell? ⟨bB, 2, none⟩ = some (.slice AB2 mB2 cB2) ∧ W.cell? ⟨bB, 3, none⟩ = some (.slice AB3 mB3 cB3) ∧ W.cell? ⟨bB, 4, none⟩ = some (.slice AB4 mB4 cB4)) := Lib.hid (fun W hW => by
        have ea := (hW.block bA (row_lt _ _ _ hhA)).trans hhA
        have eb := (hW.block bB (row_lt _ _ _ hhB)).trans hhB
        exact ⟨HE8.out W (HB9.out W hW), cell_of_row _ _ 0 _ _ (0, 0) ea, cell_of_row _ _ 1 _ _ (0, 0) ea, cell_of_row _ _ 2 _ _ (0, 0) ea, cell_of_row _ _ 3 _ _ (0, 0) ea, cell_of_row _ _ 4 _ _ (0, 0) ea, cell_of_row _ _ 0 _ _ (0, 0) eb, cell_of_row _ _ 1 _ _ (0, 0) eb, cell_of_row _ _ 2 _ _ (0, 0) eb, cell_of_row _ _ 3 _ _ (0, 0) eb, cell_of_row _ _ 4 _ _ (0, 0) eb⟩)
      have HOD : Hid (OkX (dropO ks X1)) := Lib.hid (okx_drop ks HOS.out)
      have HD3 : Hid (∀ W, Below wx.heap.size wx W → Calls Try.prog 32 #[.agg #[.int .i64 kA, .int .i64 nA, .slice AA2 mA2 cA2, .slice AA3 mA3 cA3, .slice AA4 mA4 cA4], .slice AK KK cK] W (CpP W (dropO ks X1))) := Lib.hid (fun W hW => by
        have h := pDropU (c := cK) HOS.out (HKV.out W (HB9.out W hW)) (by rw [HKK.out]; exact HK30.out) HHK.out.2 (HXA.out W hW) (fun g hg => Nat.lt_of_lt_of_le hg hW.size)
        rw [HKK.out] at h; exact h)
      have HD4 : Hid (∀ W, Below wx.heap.size wx W → Calls Try.prog 33 #[.agg #[.int .i64 kB, .int .i64 nB, .slice AB2 mB2 cB2, .slice AB3 mB3 cB3, .slice AB4 mB4 cB4], .slice AK KK cK] W (CpP W (dropO ks X1))) := Lib.hid (fun W hW => by
        have h := rDropU (c := cK) HOS.out (HKV.out W (HB9.out W hW)) (by rw [HKK.out]; exact HK30.out) (HXB.out W hW) (fun g hg => Nat.lt_of_lt_of_le hg hW.size)
        rw [HKK.out] at h; exact h)
      have HSX : Hid (∀ W, Below wx.heap.size wx W → Calls Try.prog 34 #[.agg #[.int .i64 kA, .int .i64 nA, .slice AA2 mA2 cA2, .slice AA3 mA3 cA3, .slice AA4 mA4 cA4], .agg #[.int .i64 kB, .int .i64 nB, .slice AB2 mB2 cB2, .slice AB3 mB3 cB3, .slice AB4 mB4 cB4]] W fun r w' => r = .returned (.bool true) ∧ Below W.heap.size W w') := Lib.hid (fun W hW => same_yes X1 W (ObR.keep (fun _ _ => rfl) (fun g hg => Nat.lt_of_lt_of_le hg hW.size) _ (HXA.out W hW)) (ObR.keep (fun _ _ => rfl) (fun g hg => Nat.lt_of_lt_of_le hg hW.size) _ (HXB.out W hW)))
      obtain ⟨X2, hX2⟩ : ∃ X2, dropO ks X1 = X2 := ⟨_, rfl⟩
      rw [hX2] at HOD HD3 HD4
      have HX2 := Lib.hid hX2
      clear hX2 hxA hxB hhA hhB
      have loc := locE X2 (.agg #[.int .i64 kA, .int .i64 nA, .slice AA2 mA2 cA2, .slice AA3 mA3 cA3, .slice AA4 mA4 cA4]) (.agg #[.int .i64 kB, .int .i64 nB, .slice AB2 mB2 cB2, .slice AB3 mB3 cB3, .slice AB4 mB4 cB4]) (.slice AK KK cK)
      go_upto_region 12 with fail
      obtain ⟨wX, hwX⟩ : ∃ wX, wx = wX := ⟨_, rfl⟩
      rw [hwX] at HBX HXA HXB HB9 HE9 HD3 HD4 HSX ⊢
      clear hwX
      refine wp_region_Z wX.heap.size (PrE (X2) (.agg #[.int .i64 kA, .int .i64 nA, .slice AA2 mA2 cA2, .slice AA3 mA3 cA3, .slice AA4 mA4 cA4]) (.agg #[.int .i64 kB, .int .i64 nB, .slice AB2 mB2 cB2, .slice AB3 mB3 cB3, .slice AB4 mB4 cB4]) (.slice AK KK cK)) depE eatE rfl (by kernel_rfl) (by kernel_rfl) (by kernel_rfl) ?_ ?_
      · intro Zo L V wx i o a ho hi hdep hF hA
        have hlt : i < 10 := (List.getElem?_eq_some_iff.1 ho).1
        obtain ⟨⟨q0, q1, q2, q3, q4, q5, q6, q7, q8, q9⟩, p0, p1, p2, p3, p4, p5, p6, p7, p8, p9⟩ := HE9.out wx hF.low
        obtain rfl | rfl | rfl | rfl | rfl | rfl | rfl | rfl | rfl | rfl : i = 0 ∨ i = 1 ∨ i = 2 ∨ i = 3 ∨ i = 4 ∨ i = 5 ∨ i = 6 ∨ i = 7 ∨ i = 8 ∨ i = 9 := by omega
        · cases ho
          have e := hA.ev0 (k := 9) (by kernel_rfl) rfl
          exact wpOp_valueV (v := .agg #[.int .i64 kA, .int .i64 nA, .slice AA2 mA2 cA2, .slice AA3 mA3 cA3, .slice AA4 mA4 cA4]) (w' := wx) rfl rfl (by go_simp) ⟨_, _, rfl, hF.pure loc rfl hi (selfE L _) (Stab.const rfl)⟩
        · cases ho
          have e := hA.ev0 (k := 2) (by kernel_rfl) rfl
          exact wpOp_valueV (v := .slice AK KK cK) (w' := wx) rfl rfl (by go_simp) ⟨_, _, rfl, hF.pure loc rfl hi (selfE L _) (Stab.const rfl)⟩
        · cases ho
          have l0 := hdep ⟨0, .data⟩ (by simp) rfl
          have l1 := hdep ⟨1, .data⟩ (by simp) rfl
          have e := hA.ev (j := 0) rfl rfl l0
          have e2 := hA.ev (j := 1) rfl rfl l1
          rw [show V 0 = .agg #[.int .i64 kA, .int .i64 nA, .slice AA2 mA2 cA2, .slice AA3 mA3 cA3, .slice AA4 mA4 cA4] from hF.get l0 rfl] at e
          rw [show V 1 = .slice AK KK cK from hF.get l1 rfl] at e2
          refine wpOp_enterV (f := 32) (args := #[.agg #[.int .i64 kA, .int .i64 nA, .slice AA2 mA2 cA2, .slice AA3 mA3 cA3, .slice AA4 mA4 cA4], .slice AK KK cK]) rfl rfl (by go_simp) (HD3.out wx hF.low) ?_
          rintro r w' ⟨d0, d1, d2, d3, d4, rfl, hd, hb⟩
          exact ⟨_, rfl, _, _, rfl, hF.make loc rfl hi (selfE L _) hb (gotZ.stab ⟨_, _, _, _, _, rfl, hd⟩ (Nat.le_refl _))⟩
        · cases ho
          have e := hA.ev0 (k := 10) (by kernel_rfl) rfl
          exact wpOp_valueV (v := .agg #[.int .i64 kB, .int .i64 nB, .slice AB2 mB2 cB2, .slice AB3 mB3 cB3, .slice AB4 mB4 cB4]) (w' := wx) rfl rfl (by go_simp) ⟨_, _, rfl, hF.pure loc rfl hi (selfE L _) (Stab.const rfl)⟩
        · cases ho
          have e := hA.ev0 (k := 2) (by kernel_rfl) rfl
          exact wpOp_valueV (v := .slice AK KK cK) (w' := wx) rfl rfl (by go_simp) ⟨_, _, rfl, hF.pure loc rfl hi (selfE L _) (Stab.const rfl)⟩
        · cases ho
          have l0 := hdep ⟨3, .data⟩ (by simp) rfl
          have l1 := hdep ⟨4, .data⟩ (by simp) rfl
          have e := hA.ev (j := 3) rfl rfl l0
          have e2 := hA.ev (j := 4) rfl rfl l1
          rw [show V 3 = .agg #[.int .i64 kB, .int .i64 nB, .slice AB2 mB2 cB2, .slice AB3 mB3 cB3, .slice AB4 mB4 cB4] from hF.get l0 rfl] at e
          rw [show V 4 = .slice AK KK cK from hF.get l1 rfl] at e2
          refine wpOp_enterV (f := 33) (args := #[.agg #[.int .i64 kB, .int .i64 nB, .slice AB2 mB2 cB2, .slice AB3 mB3 cB3, .slice AB4 mB4 cB4], .slice AK KK cK]) rfl rfl (by go_simp) (HD4.out wx hF.low) ?_
          rintro r w' ⟨d0, d1, d2, d3, d4, rfl, hd, hb⟩
          exact ⟨_, rfl, _, _, rfl, hF.make loc rfl hi (selfE L _) hb (gotZ.stab ⟨_, _, _, _, _, rfl, hd⟩ (Nat.le_refl _))⟩
        · cases ho
          exact wpOp_valueV (v := .pointer (some ⟨wx.heap.size, 0, none⟩)) (w' := wx.alloc (.cells #[.int .i64 0, .int .i64 0, .slice none 0 0, .slice none 0 0, .slice none 0 0] 27)) rfl rfl (by go_simp) ⟨_, _, rfl, hF.make loc rfl hi (selfE L _) ((Below.refl _ _).alloc (Nat.le_refl _) _) (boxZ.stab ⟨rfl, by simp, _, _, _, _, _, heap_alloc_new wx _⟩)⟩
        · cases ho
          exact wpOp_valueV (v := .pointer (some ⟨wx.heap.size, 0, none⟩)) (w' := wx.alloc (.cells #[.int .i64 0, .int .i64 0, .slice none 0 0, .slice none 0 0, .slice none 0 0] 27)) rfl rfl (by go_simp) ⟨_, _, rfl, hF.make loc rfl hi (selfE L _) ((Below.refl _ _).alloc (Nat.le_refl _) _) (boxZ.stab ⟨rfl, by simp, _, _, _, _, _, heap_alloc_new wx _⟩)⟩
        · cases ho
          have lb := hdep ⟨6, .data⟩ (by simp) rfl
          have lv := hdep ⟨2, .data⟩ (by simp) rfl
          have e := hA.ev (j := 6) rfl rfl lb
          have e2 := hA.ev (j := 2) rfl rfl lv
          obtain ⟨hv, hlz, z0, z1, z2, z3, z4, hh⟩ : boxZ (V 6) (Zo 6) wx := hF.getE lb rfl hi
          obtain ⟨d0, d1, d2, d3, d4, hv2, hob⟩ : gotZ (X2) (V 2) (Zo 2) wx := hF.get lv rfl
          have hfill := fun W' hW' => hF.fill (W' := W') loc rfl hi (fun j hj => .inr (by rcases List.mem_cons.1 hj with rfl | hj; exact lb; rw [List.mem_singleton.1 hj]; exact lv)) rfl lb (b := (Zo 6).1) (d0 := d0) (d1 := d1) (d2 := d2) (d3 := d3) (d4 := d4) hW' ⟨rfl, hlz, z0, z1, z2, z3, z4, hh⟩ (fun z w2 h => by (have h2 := h; rw [← hv2, ← hv] at h2); exact h2)
          rw [hv] at e
          rw [hv2] at e2
          obtain ⟨y0, y1, y2, y3, y4, y5⟩ := row5_cells hh
          obtain ⟨k, n2, A2, m2, g2, A3, m3, g3, A4, m4, g4, rfl, rfl, rfl, rfl, rfl⟩ := hob.form
          obtain ⟨gb, hgb⟩ : ∃ gb, (Zo 6).1 = gb := ⟨_, rfl⟩
          rw [hgb] at hfill e y0 y1 y2 y3 y4 y5
          exact wpOp_skipV rfl rfl (by go_simp) ⟨undef, _, rfl, hfill _ rfl⟩
        · cases ho
          have lb := hdep ⟨7, .data⟩ (by simp) rfl
          have lv := hdep ⟨5, .data⟩ (by simp) rfl
          have e := hA.ev (j := 7) rfl rfl lb
          have e2 := hA.ev (j := 5) rfl rfl lv
          obtain ⟨hv, hlz, z0, z1, z2, z3, z4, hh⟩ : boxZ (V 7) (Zo 7) wx := hF.getE lb rfl hi
          obtain ⟨d0, d1, d2, d3, d4, hv2, hob⟩ : gotZ (X2) (V 5) (Zo 5) wx := hF.get lv rfl
          have hfill := fun W' hW' => hF.fill (W' := W') loc rfl hi (fun j hj => .inr (by rcases List.mem_cons.1 hj with rfl | hj; exact lb; rw [List.mem_singleton.1 hj]; exact lv)) rfl lb (b := (Zo 7).1) (d0 := d0) (d1 := d1) (d2 := d2) (d3 := d3) (d4 := d4) hW' ⟨rfl, hlz, z0, z1, z2, z3, z4, hh⟩ (fun z w2 h => by (have h2 := h; rw [← hv2, ← hv] at h2); exact h2)
          rw [hv] at e
          rw [hv2] at e2
          obtain ⟨y0, y1, y2, y3, y4, y5⟩ := row5_cells hh
          obtain ⟨k, n2, A2, m2, g2, A3, m3, g3, A4, m4, g4, rfl, rfl, rfl, rfl, rfl⟩ := hob.form
          obtain ⟨gb, hgb⟩ : ∃ gb, (Zo 7).1 = gb := ⟨_, rfl⟩
          rw [hgb] at hfill e y0 y1 y2 y3 y4 y5
          exact wpOp_skipV rfl rfl (by go_simp) ⟨undef, _, rfl, hfill _ rfl⟩
      intro Zo L V wy hall hF
      obtain ⟨⟨v0, v1, v3, v4⟩, d0, d1, d2, d3, d4, e0, e1, e2, e3, e4, bU, bV, v2, v5, v6, v7, hxU, hxV, hhU, hhV⟩ := endE hF hall
      have HBY : Hid (Below wX.heap.size wX wy) := Lib.hid hF.low
      simp only [putsF, Act.put, List.setIfInBounds_toArray, List.set_cons_zero, List.set_cons_succ, Nat.zero_add, Nat.reduceAdd]
      rw [v0, v1, v3, v4, v2, v5, v6, v7]
      clear v0 v1 v3 v4 v2 v5 v6 v7 hF hall loc HD3 HD4
      obtain ⟨kU, nU, AU2, mU2, cU2, AU3, mU3, cU3, AU4, mU4, cU4, rfl, rfl, rfl, rfl, rfl⟩ := hxU.form
      obtain ⟨kV, nV, AV2, mV2, cV2, AV3, mV3, cV3, AV4, mV4, cV4, rfl, rfl, rfl, rfl, rfl⟩ := hxV.form
      have HBA : Hid (∀ W, Below wy.heap.size wy W → Below wX.heap.size wX W) := Lib.hid (fun W hW => HBY.out.trans (hW.mono HBY.out.size))
      have HXU : Hid (∀ W, Below wy.heap.size wy W → ObR W (fun g => g < wy.heap.size) X2 (.int .i64 kU) (.int .i64 nU) (.slice AU2 mU2 cU2) (.slice AU3 mU3 cU3) (.slice AU4 mU4 cU4)) := Lib.hid (fun W hW => ObR.keep (fun g hg => hW.block g hg) (fun _ h => h) _ hxU)
      have HSU : Hid (∀ W, Below wy.heap.size wy W → Calls Try.prog 34 #[.agg #[.int .i64 kU, .int .i64 nU, .slice AU2 mU2 cU2, .slice AU3 mU3 cU3, .slice AU4 mU4 cU4], .agg #[.int .i64 kV, .int .i64 nV, .slice AV2 mV2 cV2, .slice AV3 mV3 cV3, .slice AV4 mV4 cV4]] W fun r w' => r = .returned (.bool true) ∧ Below W.heap.size W w') := Lib.hid (fun W hW => same_yes X2 W (ObR.keep (fun g hg => hW.block g hg) (fun g hg => Nat.lt_of_lt_of_le hg hW.size) _ hxU) (ObR.keep (fun g hg => hW.block g hg) (fun g hg => Nat.lt_of_lt_of_le hg hW.size) _ hxV))
      have HSA := Lib.hid (fun W (hW : Below wy.heap.size wy W) => HSX.out W (HBA.out W hW))
      have HSB := Lib.hid (fun W (hW : Below wy.heap.size wy W) => HSW.out W (HB9.out W (HBA.out W hW)))
      have HEY : Hid (∀ W, Below wy.heap.size wy W → ((W.cell? ⟨w.heap.size, 0, none⟩ = some (.int .i64 k9) ∧ W.cell? ⟨w.heap.size, 1, none⟩ = some (.int .i64 n9) ∧ W.cell? ⟨w.heap.size, 2, none⟩ = some (.slice A29 m29 c29) ∧ W.cell? ⟨w.heap.size, 3, none⟩ = some (.slice A39 m39 c39) ∧ W.cell? ⟨w.heap.size, 4, none⟩ = some (.slice A49 m49 c49) ∧ W.cell? ⟨w7.heap.size, 0, none⟩ = some (.int .i64 kc) ∧ W.cell? ⟨w7.heap.size, 1, none⟩ = some (.int .i64 nc) ∧ W.cell? ⟨w7.heap.size, 2, none⟩ = some (.slice AB mB cB) ∧ W.cell? ⟨w7.heap.size, 3, none⟩ = some (.slice AL mL cL) ∧ W.cell? ⟨w7.heap.size, 4, none⟩ = some (.slice AD mD cD)) ∧ W.cell? ⟨bA, 0, none⟩ = some (.int .i64 kA) ∧ W.cell? ⟨bA, 1, none⟩ = some (.int .i64 nA) ∧ W.cell? ⟨bA, 2, none⟩ = some (.slice AA2 mA2 cA2) ∧ W.cell? ⟨bA, 3, none⟩ = some (.slice AA3 mA3 cA3) ∧ W.cell? ⟨bA, 4, none⟩ = some (.slice AA4 mA4 cA4) ∧ W.cell? ⟨bB, 0, none⟩ = some (.int .i64 kB) ∧ W.cell? ⟨bB, 1, none⟩ = some (.int .i64 nB) ∧ W.cell? ⟨bB, 2, none⟩ = some (.slice AB2 mB2 cB2) ∧ W.cell? ⟨bB, 3, none⟩ = some (.slice AB3 mB3 cB3) ∧ W.cell? ⟨bB, 4, none⟩ = some (.slice AB4 mB4 cB4)) ∧ W.cell? ⟨bU, 0, none⟩ = some (.int .i64 kU) ∧ W.cell? ⟨bU, 1, none⟩ = some (.int .i64 nU) ∧ W.cell? ⟨bU, 2, none⟩ = some (.slice AU2 mU2 cU2) ∧ W.cell? ⟨bU, 3, none⟩ = some (.slice AU3 mU3 cU3) ∧ W.cell? ⟨bU, 4, none⟩ = some (.slice AU4 mU4 cU4) ∧ W.cell? ⟨bV, 0, none⟩ = some (.int .i64 kV) ∧ W.cell? ⟨bV, 1, none⟩ = some (.int .i64 nV) ∧ W.cell? ⟨bV, 2, none⟩ = some (.slice AV2 mV2 cV2) ∧ W.cell? ⟨bV, 3, none⟩ = some (.slice AV3 mV3 cV3) ∧ W.cell? ⟨bV, 4, none⟩ = some (.slice AV4 mV4 cV4)) := Lib.hid (fun W hW => by
        have ea := (hW.block bU (row_lt _ _ _ hhU)).trans hhU
        have eb := (hW.block bV (row_lt _ _ _ hhV)).trans hhV
        exact ⟨HE9.out W (HBA.out W hW), cell_of_row _ _ 0 _ _ (0, 0) ea, cell_of_row _ _ 1 _ _ (0, 0) ea, cell_of_row _ _ 2 _ _ (0, 0) ea, cell_of_row _ _ 3 _ _ (0, 0) ea, cell_of_row _ _ 4 _ _ (0, 0) ea, cell_of_row _ _ 0 _ _ (0, 0) eb, cell_of_row _ _ 1 _ _ (0, 0) eb, cell_of_row _ _ 2 _ _ (0, 0) eb, cell_of_row _ _ 3 _ _ (0, 0) eb, cell_of_row _ _ 4 _ _ (0, 0) eb⟩)
      have HRW : Hid (∀ W, Below wy.heap.size wy W → Below w.heap.size w W) := Lib.hid (fun W hW => HBW.out W (HB8.out W (HB9.out W (HBA.out W hW))))
      obtain ⟨⟨⟨q0, q1, q2, q3, q4, q5, q6, q7, q8, q9⟩, q10, q11, q12, q13, q14, q15, q16, q17, q18, q19⟩, q20, q21, q22, q23, q24, q25, q26, q27, q28, q29⟩ := HEY.out wy (Below.refl _ _)
      have HB : Hid (Below wy.heap.size wy wy) := Lib.hid (Below.refl _ _)
      clear hxU hxV hhU hhV HSX HSW HE9 HE8
      go_wp2_with (first
        | (go_at_call 34; (with_reducible refine (HSA.out _ HB.out).mono ?_); (rintro r wS ⟨rfl, hb3⟩); have HB' := Lib.hid (HB.out.trans (hb3.mono HB.out.size)); clear HB hb3 q0 q1 q2 q3 q4 q5 q6 q7 q8 q9 q10 q11 q12 q13 q14 q15 q16 q17 q18 q19 q20 q21 q22 q23 q24 q25 q26 q27 q28 q29; have HB := HB'; clear HB'; (obtain ⟨⟨⟨q0, q1, q2, q3, q4, q5, q6, q7, q8, q9⟩, q10, q11, q12, q13, q14, q15, q16, q17, q18, q19⟩, q20, q21, q22, q23, q24, q25, q26, q27, q28, q29⟩ := HEY.out _ HB.out))
        | (go_at_call 34; (with_reducible refine (HSU.out _ HB.out).mono ?_); (rintro r wS ⟨rfl, hb3⟩); have HB' := Lib.hid (HB.out.trans (hb3.mono HB.out.size)); clear HB hb3 q0 q1 q2 q3 q4 q5 q6 q7 q8 q9 q10 q11 q12 q13 q14 q15 q16 q17 q18 q19 q20 q21 q22 q23 q24 q25 q26 q27 q28 q29; have HB := HB'; clear HB'; (obtain ⟨⟨⟨q0, q1, q2, q3, q4, q5, q6, q7, q8, q9⟩, q10, q11, q12, q13, q14, q15, q16, q17, q18, q19⟩, q20, q21, q22, q23, q24, q25, q26, q27, q28, q29⟩ := HEY.out _ HB.out))
        | (go_at_call 34; (with_reducible refine (HSB.out _ HB.out).mono ?_); (rintro r wS ⟨rfl, hb3⟩); have HB' := Lib.hid (HB.out.trans (hb3.mono HB.out.size)); clear HB hb3 q0 q1 q2 q3 q4 q5 q6 q7 q8 q9 q10 q11 q12 q13 q14 q15 q16 q17 q18 q19 q20 q21 q22 q23 q24 q25 q26 q27 q28 q29; have HB := HB'; clear HB'; (obtain ⟨⟨⟨q0, q1, q2, q3, q4, q5, q6, q7, q8, q9⟩, q10, q11, q12, q13, q14, q15, q16, q17, q18, q19⟩, q20, q21, q22, q23, q24, q25, q26, q27, q28, q29⟩ := HEY.out _ HB.out)))
      clear q0 q1 q2 q3 q4 q5 q6 q7 q8 q9 q10 q11 q12 q13 q14 q15 q16 q17 q18 q19 q20 q21 q22 q23 q24 q25 q26 q27 q28 q29 HSA HSU HSB
      go_loopw [13] (fun iv wz => ∃ (i : Nat), i ≤ KK ∧ iv = .int .i64 i ∧ Hid (Below wy.heap.size wy wz)) (fun iv _ => KK - (intOf iv).toNat)
      case atStart => exact ⟨0, Nat.zero_le _, rfl, HB⟩
      case round =>
        clear HB
        obtain ⟨i, hi, rfl, HBZ⟩ := hrel
        by_cases hlt : i < KK
        · have hik : i < ks.length := by rw [HKK.out]; exact hlt
          obtain ⟨t, ht⟩ : ∃ t, ks[i]? = some t := ⟨ks[i], List.getElem?_eq_getElem hik⟩
          obtain ⟨g, o, rfl, hg, hcs⟩ := HHK.out.1 (by omega)
          have htm := List.mem_of_getElem? ht
          have HE : Hid (∀ W, Below wy.heap.size wy W → (W.cell? ⟨bA, 0, none⟩ = some (.int .i64 kA) ∧ W.cell? ⟨bA, 1, none⟩ = some (.int .i64 nA) ∧ W.cell? ⟨bA, 2, none⟩ = some (.slice AA2 mA2 cA2) ∧ W.cell? ⟨bA, 3, none⟩ = some (.slice AA3 mA3 cA3) ∧ W.cell? ⟨bA, 4, none⟩ = some (.slice AA4 mA4 cA4) ∧ W.cell? ⟨bB, 0, none⟩ = some (.int .i64 kB) ∧ W.cell? ⟨bB, 1, none⟩ = some (.int .i64 nB) ∧ W.cell? ⟨bB, 2, none⟩ = some (.slice AB2 mB2 cB2) ∧ W.cell? ⟨bB, 3, none⟩ = some (.slice AB3 mB3 cB3) ∧ W.cell? ⟨bB, 4, none⟩ = some (.slice AB4 mB4 cB4) ∧ W.cell? ⟨bU, 0, none⟩ = some (.int .i64 kU) ∧ W.cell? ⟨bU, 1, none⟩ = some (.int .i64 nU) ∧ W.cell? ⟨bU, 2, none⟩ = some (.slice AU2 mU2 cU2) ∧ W.cell? ⟨bU, 3, none⟩ = some (.slice AU3 mU3 cU3) ∧ W.cell? ⟨bU, 4, none⟩ = some (.slice AU4 mU4 cU4)) ∧ W.cell? ⟨g, o + i, none⟩ = some (.string t)) := Lib.hid (fun W hW => by
            obtain ⟨⟨-, q10, q11, q12, q13, q14, q15, q16, q17, q18, q19⟩, q20, q21, q22, q23, q24, -⟩ := HEY.out W hW
            exact ⟨⟨q10, q11, q12, q13, q14, q15, q16, q17, q18, q19, q20, q21, q22, q23, q24⟩, (World.cell?_of_block (a := ⟨g, o + i, none⟩) ((HRW.out W hW).block g hg)).trans (hcs i t ht)⟩)
          have HGX : Hid (∀ W, Below wy.heap.size wy W → Calls Try.prog 35 #[.agg #[.int .i64 kA, .int .i64 nA, .slice AA2 mA2 cA2, .slice AA3 mA3 cA3, .slice AA4 mA4 cA4], .string t] W (CpP W (getF X1 t))) := Lib.hid (fun W hW => pGetU HOS.out t (HXA.out W (HBA.out W hW)) (fun g hg => Nat.lt_of_lt_of_le hg (HBA.out W hW).size))
          have HGY : Hid (∀ W, Below wy.heap.size wy W → Calls Try.prog 36 #[.agg #[.int .i64 kB, .int .i64 nB, .slice AB2 mB2 cB2, .slice AB3 mB3 cB3, .slice AB4 mB4 cB4], .string t] W (CpP W (getF X1 t))) := Lib.hid (fun W hW => rGetU HOS.out t (HXB.out W (HBA.out W hW)) (fun g hg => Nat.lt_of_lt_of_le hg (HBA.out W hW).size))
          have HGU : Hid (∀ W, Below wy.heap.size wy W → Calls Try.prog 35 #[.agg #[.int .i64 kU, .int .i64 nU, .slice AU2 mU2 cU2, .slice AU3 mU3 cU3, .slice AU4 mU4 cU4], .string t] W (CpP W zeroOb)) := Lib.hid (fun W hW => by
            have h := pGetU HOD.out t (HXU.out W hW) (fun g hg => Nat.lt_of_lt_of_le hg hW.size)
            rw [← HX2.out, get_drop ks X1 t htm] at h; exact h)
          have hli : (i : Int) < KK := by omega
          have HLT := Lib.hid hlt
          have m0 := (HE.out _ HBZ.out).2
          clear hik ht hg hcs htm hlt hi
          by_cases hk : 300 < t.size
          · have ik : (t.size : Int) > 300 := by omega
            go_wp2_with fail
            go_ret
            exact ⟨rfl, HRW.out _ HBZ.out⟩
          have ik : ¬ (t.size : Int) > 300 := by omega
          clear hk
          go_upto_region 20 with fail
          have HC : Hid (Below wy.heap.size wy wr.drew) := Lib.hid HBZ.out.drew
          clear m0 ik
          refine wp_region_heldR (fun W => (W.cell? ⟨bA, 0, none⟩ = some (.int .i64 kA) ∧ W.cell? ⟨bA, 1, none⟩ = some (.int .i64 nA) ∧ W.cell? ⟨bA, 2, none⟩ = some (.slice AA2 mA2 cA2) ∧ W.cell? ⟨bA, 3, none⟩ = some (.slice AA3 mA3 cA3) ∧ W.cell? ⟨bA, 4, none⟩ = some (.slice AA4 mA4 cA4) ∧ W.cell? ⟨bB, 0, none⟩ = some (.int .i64 kB) ∧ W.cell? ⟨bB, 1, none⟩ = some (.int .i64 nB) ∧ W.cell? ⟨bB, 2, none⟩ = some (.slice AB2 mB2 cB2) ∧ W.cell? ⟨bB, 3, none⟩ = some (.slice AB3 mB3 cB3) ∧ W.cell? ⟨bB, 4, none⟩ = some (.slice AB4 mB4 cB4) ∧ W.cell? ⟨bU, 0, none⟩ = some (.int .i64 kU) ∧ W.cell? ⟨bU, 1, none⟩ = some (.int .i64 nU) ∧ W.cell? ⟨bU, 2, none⟩ = some (.slice AU2 mU2 cU2) ∧ W.cell? ⟨bU, 3, none⟩ = some (.slice AU3 mU3 cU3) ∧ W.cell? ⟨bU, 4, none⟩ = some (.slice AU4 mU4 cU4)) ∧ W.cell? ⟨g, o + i, none⟩ = some (.string t)) 1000 (by kernel_rfl) (HE.out _ HC.out) (fun hHeld => ?_)
          refine wpAnyR_take 0 rfl (by kernel_rfl) (by kernel_rfl) (by kernel_rfl) (by kernel_rfl) (fun _ _ _ h => h) (by rfl) (v := ?_) ?_ (by assumption) ?_
          rotate_left
          focus
            intro wS hSw
            (try dsimp only at hSw)
            go_simp
            (try simp only [hSw])
            (try simp only [hfd, Result.andThen])
            try with_reducible rfl
          intro hHeld
          try simp only [Act.put, List.setIfInBounds_toArray, List.set_cons_zero, List.set_cons_succ]
          refine wpAnyR_take 1 rfl (by kernel_rfl) (by kernel_rfl) (by kernel_rfl) (by kernel_rfl) (fun _ _ _ h => h) (by rfl) (v := ?_) ?_ (by assumption) ?_
          rotate_left
          focus
            intro wS hSw
            (try dsimp only at hSw)
            go_simp
            (try simp only [hSw])
            (try simp only [hfd, Result.andThen])
            try with_reducible rfl
          intro hHeld
          try simp only [Act.put, List.setIfInBounds_toArray, List.set_cons_zero, List.set_cons_succ]
          refine wpAnyR_take 2 rfl (by kernel_rfl) (by kernel_rfl) (by kernel_rfl) (by kernel_rfl) (fun _ _ _ h => h) (by rfl) (v := ?_) ?_ (by assumption) ?_
          rotate_left
          focus
            intro wS hSw
            (try dsimp only at hSw)
            go_simp
            (try simp only [hSw])
            (try simp only [hfd, Result.andThen])
            try with_reducible rfl
          intro hHeld
          try simp only [Act.put, List.setIfInBounds_toArray, List.set_cons_zero, List.set_cons_succ]
          refine wpAnyR_take 3 rfl (by kernel_rfl) (by kernel_rfl) (by kernel_rfl) (by kernel_rfl) (fun _ _ _ h => h) (by rfl) (v := ?_) ?_ (by assumption) ?_
          rotate_left
          focus
            intro wS hSw
            (try dsimp only at hSw)
            go_simp
            (try simp only [hSw])
            (try simp only [hfd, Result.andThen])
            try with_reducible rfl
          intro hHeld
          try simp only [Act.put, List.setIfInBounds_toArray, List.set_cons_zero, List.set_cons_succ]
          refine wpAnyR_take 4 rfl (by kernel_rfl) (by kernel_rfl) (by kernel_rfl) (by kernel_rfl) (fun _ _ _ h => h) (by rfl) (v := ?_) ?_ (by assumption) ?_
          rotate_left
          focus
            intro wS hSw
            (try dsimp only at hSw)
            go_simp
            (try simp only [hSw])
            (try simp only [hfd, Result.andThen])
            try with_reducible rfl
          intro hHeld
          try simp only [Act.put, List.setIfInBounds_toArray, List.set_cons_zero, List.set_cons_succ]
          refine wpAnyR_take 6 rfl (by kernel_rfl) (by kernel_rfl) (by kernel_rfl) (by kernel_rfl) (fun _ _ _ h => h) (by rfl) (v := ?_) ?_ (by assumption) ?_
          rotate_left
          focus
            intro wS hSw
            (try dsimp only at hSw)
            go_simp
            (try simp only [hSw])
            (try simp only [hfd, Result.andThen])
            try with_reducible rfl
          intro hHeld
          try simp only [Act.put, List.setIfInBounds_toArray, List.set_cons_zero, List.set_cons_succ]
          refine wpAnyR_take 7 rfl (by kernel_rfl) (by kernel_rfl) (by kernel_rfl) (by kernel_rfl) (fun _ _ _ h => h) (by rfl) (v := ?_) ?_ (by assumption) ?_
          rotate_left
          focus
            intro wS hSw
            (try dsimp only at hSw)
            go_simp
            (try simp only [hSw])
            (try simp only [hfd, Result.andThen])
            try with_reducible rfl
          intro hHeld
          try simp only [Act.put, List.setIfInBounds_toArray, List.set_cons_zero, List.set_cons_succ]
          refine wpAnyR_take 8 rfl (by kernel_rfl) (by kernel_rfl) (by kernel_rfl) (by kernel_rfl) (fun _ _ _ h => h) (by rfl) (v := ?_) ?_ (by assumption) ?_
          rotate_left
          focus
            intro wS hSw
            (try dsimp only at hSw)
            go_simp
            (try simp only [hSw])
            (try simp only [hfd, Result.andThen])
            try with_reducible rfl
          intro hHeld
          try simp only [Act.put, List.setIfInBounds_toArray, List.set_cons_zero, List.set_cons_succ]
          refine wpAnyR_take 9 rfl (by kernel_rfl) (by kernel_rfl) (by kernel_rfl) (by kernel_rfl) (fun _ _ _ h => h) (by rfl) (v := ?_) ?_ (by assumption) ?_
          rotate_left
          focus
            intro wS hSw
            (try dsimp only at hSw)
            go_simp
            (try simp only [hSw])
            (try simp only [hfd, Result.andThen])
            try with_reducible rfl
          intro hHeld
          try simp only [Act.put, List.setIfInBounds_toArray, List.set_cons_zero, List.set_cons_succ]
          refine wpAnyR_take 10 rfl (by kernel_rfl) (by kernel_rfl) (by kernel_rfl) (by kernel_rfl) (fun _ _ _ h => h) (by rfl) (v := ?_) ?_ (by assumption) ?_
          rotate_left
          focus
            intro wS hSw
            (try dsimp only at hSw)
            go_simp
            (try simp only [hSw])
            (try simp only [hfd, Result.andThen])
            try with_reducible rfl
          intro hHeld
          try simp only [Act.put, List.setIfInBounds_toArray, List.set_cons_zero, List.set_cons_succ]
          refine wpAnyR_step 5 rfl (by kernel_rfl) (fun K hK => ?_)
          go_simp
          go_at_call 35
          refine (HGX.out _ HC.out).mono ?_
          rintro r wA ⟨f0, f1, f2, f3, f4, rfl, hxA, hbA⟩
          have HC' := Lib.hid (HC.out.trans (hbA.mono HC.out.size))
          have HYA : Hid (∀ W, Below wA.heap.size wA W → ObR W (oldT W) (getF X1 t) f0 f1 f2 f3 f4) := Lib.hid (fun W hW => ObR.keep (fun g hg => hW.block g hg.2) (fun g hg => Nat.lt_of_lt_of_le hg.2 hW.size) _ hxA)
          clear HC hbA hxA
          have HC := HC'
          clear HC'
          go_wp2_with fail
          refine hK.out _ _ (HE.out _ HC.out) (fun hHeld => ?_)
          clear hK K
          try simp only [Act.put, List.setIfInBounds_toArray, List.set_cons_zero, List.set_cons_succ]
          refine wpAnyR_step 11 rfl (by kernel_rfl) (fun K hK => ?_)
          go_simp
          go_at_call 36
          refine (HGY.out _ HC.out).mono ?_
          rintro r wB ⟨h0, h1, h2, h3, h4, rfl, hxB, hbB⟩
          have HC' := Lib.hid (HC.out.trans (hbB.mono HC.out.size))
          have HSM : Hid (∀ W, Below wB.heap.size wB W → Calls Try.prog 34 #[.agg #[f0, f1, f2, f3, f4], .agg #[h0, h1, h2, h3, h4]] W fun r w' => r = .returned (.bool true) ∧ Below W.heap.size W w') := Lib.hid (fun W hW => same_yes (getF X1 t) W (HYA.out W (hbB.trans (hW.mono hbB.size))) (ObR.keep (fun g hg => hW.block g hg.2) (fun g hg => Nat.lt_of_lt_of_le hg.2 hW.size) _ hxB))
          clear HC hbB hxB HYA
          have HC := HC'
          clear HC'
          go_wp2_with fail
          refine hK.out _ _ (HE.out _ HC.out) (fun hHeld => ?_)
          clear hK K
          try simp only [Act.put, List.setIfInBounds_toArray, List.set_cons_zero, List.set_cons_succ]
          refine wpAnyR_step 12 rfl (by kernel_rfl) (fun K hK => ?_)
          go_simp
          go_at_call 34
          refine (HSM.out wB (Below.refl _ _)).mono ?_
          rintro r wD ⟨rfl, hbB⟩
          have HC' := Lib.hid (HC.out.trans (hbB.mono HC.out.size))
          clear HC hbB HSM
          have HC := HC'
          clear HC'
          go_wp2_with fail
          refine hK.out _ _ (HE.out _ HC.out) (fun hHeld => ?_)
          clear hK K
          try simp only [Act.put, List.setIfInBounds_toArray, List.set_cons_zero, List.set_cons_succ]
          refine wpAnyR_take 13 rfl (by kernel_rfl) (by kernel_rfl) (by kernel_rfl) (by kernel_rfl) (fun _ _ _ h => h) (by rfl) (v := ?_) ?_ (by assumption) ?_
          rotate_left
          focus
            intro wS hSw
            (try dsimp only at hSw)
            go_simp
            (try simp only [hSw])
            (try simp only [hfd, Result.andThen])
            try with_reducible rfl
          intro hHeld
          try simp only [Act.put, List.setIfInBounds_toArray, List.set_cons_zero, List.set_cons_succ]
          refine wpAnyR_take 14 rfl (by kernel_rfl) (by kernel_rfl) (by kernel_rfl) (by kernel_rfl) (fun _ _ _ h => h) (by rfl) (v := ?_) ?_ (by assumption) ?_
          rotate_left
          focus
            intro wS hSw
            (try dsimp only at hSw)
            go_simp
            (try simp only [hSw])
            (try simp only [hfd, Result.andThen])
            try with_reducible rfl
          intro hHeld
          try simp only [Act.put, List.setIfInBounds_toArray, List.set_cons_zero, List.set_cons_succ]
          refine wpAnyR_take 15 rfl (by kernel_rfl) (by kernel_rfl) (by kernel_rfl) (by kernel_rfl) (fun _ _ _ h => h) (by rfl) (v := ?_) ?_ (by assumption) ?_
          rotate_left
          focus
            intro wS hSw
            (try dsimp only at hSw)
            go_simp
            (try simp only [hSw])
            (try simp only [hfd, Result.andThen])
            try with_reducible rfl
          intro hHeld
          try simp only [Act.put, List.setIfInBounds_toArray, List.set_cons_zero, List.set_cons_succ]
          refine wpAnyR_take 16 rfl (by kernel_rfl) (by kernel_rfl) (by kernel_rfl) (by kernel_rfl) (fun _ _ _ h => h) (by rfl) (v := ?_) ?_ (by assumption) ?_
          rotate_left
          focus
            intro wS hSw
            (try dsimp only at hSw)
            go_simp
            (try simp only [hSw])
            (try simp only [hfd, Result.andThen])
            try with_reducible rfl
          intro hHeld
          try simp only [Act.put, List.setIfInBounds_toArray, List.set_cons_zero, List.set_cons_succ]
          refine wpAnyR_take 17 rfl (by kernel_rfl) (by kernel_rfl) (by kernel_rfl) (by kernel_rfl) (fun _ _ _ h => h) (by rfl) (v := ?_) ?_ (by assumption) ?_
          rotate_left
          focus
            intro wS hSw
            (try dsimp only at hSw)
            go_simp
            (try simp only [hSw])
            (try simp only [hfd, Result.andThen])
            try with_reducible rfl
          intro hHeld
          try simp only [Act.put, List.setIfInBounds_toArray, List.set_cons_zero, List.set_cons_succ]
          refine wpAnyR_take 18 rfl (by kernel_rfl) (by kernel_rfl) (by kernel_rfl) (by kernel_rfl) (fun _ _ _ h => h) (by rfl) (v := ?_) ?_ (by assumption) ?_
          rotate_left
          focus
            intro wS hSw
            (try dsimp only at hSw)
            go_simp
            (try simp only [hSw])
            (try simp only [hfd, Result.andThen])
            try with_reducible rfl
          intro hHeld
          try simp only [Act.put, List.setIfInBounds_toArray, List.set_cons_zero, List.set_cons_succ]
          refine wpAnyR_take 19 rfl (by kernel_rfl) (by kernel_rfl) (by kernel_rfl) (by kernel_rfl) (fun _ _ _ h => h) (by rfl) (v := ?_) ?_ (by assumption) ?_
          rotate_left
          focus
            intro wS hSw
            (try dsimp only at hSw)
            go_simp
            (try simp only [hSw])
            (try simp only [hfd, Result.andThen])
            try with_reducible rfl
          intro hHeld
          try simp only [Act.put, List.setIfInBounds_toArray, List.set_cons_zero, List.set_cons_succ]
          refine wpAnyR_step 20 rfl (by kernel_rfl) (fun K hK => ?_)
          go_simp
          go_at_call 35
          refine (HGU.out _ HC.out).mono ?_
          rintro r wE ⟨j0, j1, j2, j3, j4, rfl, hxE, hbE⟩
          have hj0 : j0 = .int .i64 0 := kind_c0 hxE
          subst hj0
          have HC' := Lib.hid (HC.out.trans (hbE.mono HC.out.size))
          clear HC hbE hxE
          have HC := HC'
          clear HC'
          go_wp2_with fail
          refine hK.out _ _ (HE.out _ HC.out) (fun hHeld => ?_)
          clear hK K
          try simp only [Act.put, List.setIfInBounds_toArray, List.set_cons_zero, List.set_cons_succ]
          have hfd : ∀ W, (Instr.field 27 (.agg #[.int .i64 0, j1, j2, j3, j4]) 0).run Try.prog W = .ok (.int .i64 0) W := fun W => by kernel_rfl
          refine wpAnyR_take 21 rfl (by kernel_rfl) (by kernel_rfl) (by kernel_rfl) (by kernel_rfl) (fun _ _ _ h => h) (by rfl) (v := ?_) ?_ (by assumption) ?_
          rotate_left
          focus
            intro wS hSw
            (try dsimp only at hSw)
            go_simp
            (try simp only [hSw])
            (try simp only [hfd, Result.andThen])
            try with_reducible rfl
          intro hHeld
          try simp only [Act.put, List.setIfInBounds_toArray, List.set_cons_zero, List.set_cons_succ]
          clear hfd
          refine wpAnyR_take 22 rfl (by kernel_rfl) (by kernel_rfl) (by kernel_rfl) (by kernel_rfl) (fun _ _ _ h => h) (by rfl) (v := ?_) ?_ (by assumption) ?_
          rotate_left
          focus
            intro wS hSw
            (try dsimp only at hSw)
            go_simp
            (try simp only [hSw])
            (try simp only [hfd, Result.andThen])
            try with_reducible rfl
          intro hHeld
          try simp only [Act.put, List.setIfInBounds_toArray, List.set_cons_zero, List.set_cons_succ]
          refine wpAnyR_take 23 rfl (by kernel_rfl) (by kernel_rfl) (by kernel_rfl) (by kernel_rfl) (fun _ _ _ h => h) (by rfl) (v := ?_) ?_ (by assumption) ?_
          rotate_left
          focus
            intro wS hSw
            (try dsimp only at hSw)
            go_simp
            (try simp only [hSw])
            (try simp only [hfd, Result.andThen])
            try with_reducible rfl
          intro hHeld
          try simp only [Act.put, List.setIfInBounds_toArray, List.set_cons_zero, List.set_cons_succ]
          refine wpAnyR_done (by kernel_rfl) ?_
          refine NoPanic.normal ?_
          go_wp2_with fail
          go_roundw
          case rel => exact ⟨i + 1, by have := HLT.out; omega, by go_num, HC⟩
          case measure => simp [intOf]; have := HLT.out; omega
        · obtain rfl : KK = i := by omega
          clear hlt
          go_wp2_with fail
          go_ret
          exact ⟨rfl, HRW.out _ HBZ.out⟩
set_option maxRecDepth 100000 in
theorem cedits_lifted (os : Os) (started : os.Started) (H : Type) (enc : TypeId × Value → H) :
    ReturnsInHanded {} Try.checked os 5 .any (Rows.cosEditsSpec.pre6 enc Try.prog Try.f5 Rows.cosEditsRow.domain false) (Rows.cosEditsSpec.post enc Try.prog Try.f5 false true false false) := by
  refine returnsInHanded_of_change (C := Try.checked) own started (by kernel_rfl) Try.func5
    (ChangeSpec.witness6 (enc := enc) (C := Try.checked) false ⟨#[], #[.agg #[.int .i64 0, .int .i64 0, .slice none 0 0, .slice none 0 0, .slice none 0 0], .slice none 0 0, .slice none 0 0], []⟩ 8 (by kernel_rfl) (by kernel_rfl) (by kernel_rfl) (by kernel_rfl)) ?_
  intro W base args ds gs before hval0 hW hcnd _
  have hval : ∀ (j : Nat) t v, Try.f5.params[j]? = some t → args[j]? = some v → Value.okWide Try.prog W .any base t v := hval0
  have hW' := hW
  obtain ⟨p, q, hA0, hV, rfl, hfz, hnd⟩ := hW
  have hA : DataW.TrodAll enc Try.prog W 0 (fun _ => true) true Try.f5.params.toList args.toList ds p := hA0
  rw [Try.params5] at hA hval
  obtain ⟨v0, vs0, d0, ds0, p0, q0, hargs, rfl, rfl, h0, r0⟩ := trodAll_cons hA
  obtain ⟨v1, vs1, d1, ds1, p1, q1, rfl, rfl, rfl, h1, r1⟩ := trodAll_cons r0
  obtain ⟨v2, vs2, d2, ds2, p2, q2, rfl, rfl, rfl, h2, r2⟩ := trodAll_cons r1
  obtain ⟨rfl, rfl, rfl⟩ := trodAll_nil r2
  obtain rfl : args = #[v0, v1, v2] := by cases args; simp_all
  obtain ⟨rfl, rfl⟩ := trodVars_none hV
  obtain ⟨cs0, rfl, hcs0⟩ := okWide_struct Try.underlying27 (hval 0 27 v0 rfl rfl)
  obtain ⟨x0, c00, c01, c02, c03, c04, rfl, ob0⟩ := open_obj h0 (fun _ => rfl)
  have lt0 : ∀ x ∈ p0, x.block < W.heap.size := by obtain ⟨m, hm⟩ := h0; exact DataW.trod_lt m _ _ _ hm
  obtain ⟨a1, len1, cap1, rfl⟩ := okWide_slice Try.underlying25 (hval 1 25 v1 rfl rfl)
  have h1' := h1
  obtain ⟨m1, hm1⟩ := h1'
  obtain ⟨l1, A1, c1, e1, hl1⟩ := open_ens (c := .slice a1 len1 cap1) (fun _ => rfl) hm1
  injection e1 with e11 e12 e13
  subst e11 e12 e13
  have lt1 : ∀ x ∈ p1, x.block < W.heap.size := by obtain ⟨m, hm⟩ := h1; exact DataW.trod_lt m _ _ _ hm
  obtain ⟨a2, len2, cap2, rfl⟩ := okWide_slice Try.underlying47 (hval 2 47 v2 rfl rfl)
  obtain ⟨ks2, hk2, hkv2, hkc2⟩ := open_keys h2 (fun _ => rfl)
  subst hk2
  have lt2 : ∀ x ∈ p2, x.block < W.heap.size := by obtain ⟨m, hm⟩ := h2; exact DataW.trod_lt m _ _ _ hm
  have hmx : maxLen = 9223372036854775807 := by decide
  clear hA0 hval0
  refine (cedits_walk x0 c00 c01 c02 c03 c04 l1 a1 cap1 ks2 a2 cap2 W ob0 hl1 hkv2 hkc2).mono fun e W' ⟨he, bel⟩ => ?_
  subst he
  exact ⟨_, rfl, _, _, _, [], _, [], hW', trodAll_mk1 (shut_bool Try.underlying4 _), (trodAll_cons_mk (Below.trod laidOut (by kernel_rfl) (of_decide_eq_true (by kernel_rfl)) h0 bel lt0) (trodAll_cons_mk (Below.trod laidOut (by kernel_rfl) (of_decide_eq_true (by kernel_rfl)) h1 bel lt1) (trodAll_cons_mk (Below.trod laidOut (by kernel_rfl) (of_decide_eq_true (by kernel_rfl)) h2 bel lt2) trodAll_mk0))), rfl, bel.frame _, fun h => by cases h⟩
/-- CosEdits: it answers true. -/
theorem cedits_holds : Rows.CosEditsSaid :=
  OpenClaim.holds_of_wide 5 Try.f5 rfl rfl rfl rfl rfl rfl rfl ⟨rfl, rfl, rfl, rfl, rfl⟩ rfl rfl rfl rfl rfl (by kernel_rfl) Try.func5 (by kernel_rfl)
    (of_decide_eq_true (by kernel_rfl)) (by unfold Func.isWrapper; first | (rw [if_pos (by decide +kernel)]; kernel_rfl) | (rw [if_neg (by decide +kernel)]; exact ⟨rfl, rfl⟩))
    (fun os started H enc _ => cedits_lifted os started H enc)
#print axioms cedits_holds
end Go.Proofs.Ytdkmomdioiipjaa
