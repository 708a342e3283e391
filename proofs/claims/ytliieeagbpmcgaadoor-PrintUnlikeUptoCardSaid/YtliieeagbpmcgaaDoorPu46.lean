/- Contracts of functions that the law calls, and what they lean on (a part). -/
import Derived.Test.YtliieeagbpmcgaaDoorPu26
import Derived.Test.YtliieeagbpmcgaaDoorPu44
import Derived.Test.YtliieeagbpmcgaaDoorPu45
namespace Go.Proofs.YtliieeagbpmcgaaDoor
section
open Go.RowKit
set_option linter.unusedVariables false
set_option maxRecDepth 100000
/-- The table lies, and stays as long as what is old stays. -/
def TabB (B : Nat) (w : World) : Prop := ∃ w0, Tab w0 ∧ w0.heap.size ≤ B ∧ Below B w0 w
theorem TabB.tab {B : Nat} {w : World} (h : TabB B w) : Tab w := by
  obtain ⟨w0, h0, hs, hb⟩ := h
  exact h0.below hb hs
theorem TabB.below {B : Nat} {w w' : World} (h : TabB B w) (hb : Below B w w') : TabB B w' := by
  obtain ⟨w0, h0, hs, hb0⟩ := h
  exact ⟨w0, h0, hs, hb0.trans hb⟩
theorem TabB.of {w : World} (h : Tab w) : TabB w.heap.size w := ⟨w, h, Nat.le_refl _, Below.refl _ _⟩
/-- A row has grown. -/
def GrP (w : World) (base p : Nat) (P R : List Int) (r : Ending) (w' : World) : Prop := ∃ v', r = .returned v' ∧ Mine w' base v' (p + R.length) (P ++ R) ∧ Below base w w'
theorem strZ_text (n : Int) (whole : Bool) : strZ ⟨(textB n whole).toArray⟩ = nuZ n whole := by unfold strZ nuZ zsB; simp
theorem pnum {w : World} {base p : Nat} {v : Value} {P : List Int} (h : Mine w base v p P) (hbase : base ≤ w.heap.size) (ht : TabB base w) (n : Int) (whole : Bool) (h0 : -9223372036854775808 ≤ n) (h1 : n ≤ 9223372036854775807) (hb : p ≤ 100000000000000) :
    Calls Tryd.prog 25 #[v, .int .i64 n, .bool whole] w (GrP w base p P (nuZ n whole)) := by
  have HT := Lib.hid (fxText n whole w h0 h1 ht.tab)
  have hl := nuZ_len n whole
  have hz := strZ_text n whole
  obtain ⟨T, hT⟩ : ∃ T : ByteArray, ⟨(textB n whole).toArray⟩ = T := ⟨_, rfl⟩
  rw [hT] at HT hz
  obtain ⟨R, hR⟩ : ∃ R, nuZ n whole = R := ⟨_, rfl⟩
  rw [hR] at hz hl ⊢
  have hsz : T.size = R.length := by rw [← hz, strZ_len]
  have HA := Lib.hid (fun W (hW : Below w.heap.size w W) => paddS (h.kept hW) (Nat.le_trans hbase hW.size) T (by omega))
  have HZ := Lib.hid (And.intro hz hsz)
  have HO := Lib.hid (And.intro h.owned hbase)
  obtain ⟨A0, c0, hv0, _⟩ := h.byt
  subst hv0
  clear hT hR hz hl hsz h ht hb hbase
  go_enter Tryd.func25, Tryd.ntmps25
  go_wp2_with (first
    | (go_at_call 39; refine HT.out.mono ?_; (rintro r w2 ⟨rfl, hb2⟩); have HB2 := Lib.hid hb2; clear hb2)
    | (go_at_call 23; refine (HA.out w2 HB2.out).mono ?_; (rintro r w3 ⟨v3, rfl, hm3, hk3⟩); have HM3 := Lib.hid hm3; have HK3 := Lib.hid hk3; clear hm3 hk3))
  go_ret
  refine ⟨_, rfl, ?_, (HB2.out.mono HO.out.2).trans (HK3.out.below (Nat.le_trans HO.out.2 HB2.out.size) HO.out.1)⟩
  have := HM3.out
  rw [HZ.out.1, HZ.out.2] at this
  exact this
theorem truC (n : Int) (w : World) : Calls Tryd.prog 24 #[.int .i64 n] w fun r w' => r = .returned (.string (if n = 1 then ⟨#[116, 114, 117, 101]⟩ else ⟨#[102, 97, 108, 115, 101]⟩)) ∧ w = w' := by
  by_cases h : n = 1
  · subst h
    go_enter Tryd.func24, Tryd.ntmps24
    go_wp2_with fail
    go_ret
    exact ⟨rfl, rfl⟩
  · rw [if_neg h]
    have h1 : (n == 1) = false := by simpa using h
    clear h
    go_enter Tryd.func24, Tryd.ntmps24
    go_wp2_with fail
    go_ret
    exact ⟨rfl, rfl⟩
def ValC (N : Nat) : Prop := ∀ (x : Ob), x.sz ≤ N → ∀ (S : Nat → Prop) (w : World) (base p : Nat) (v : Value) (P : List Int) (c0 c1 c2 c3 c4 : Value), ObR w S x c0 c1 c2 c3 c4 → (∀ g, S g → g < base) → base ≤ w.heap.size → TabB base w → Mine w base v p P → fnO x → x.kind ≠ 8 → p + (prO x).length ≤ 10000000000000 →
  Calls Tryd.prog 16 #[v, .agg #[c0, c1, c2, c3, c4]] w (GrP w base p P (prO x))
set_option maxHeartbeats 4000000 in
theorem pitems {N : Nat} (IH : ValC N) (l : Obs) (hl : l.sz ≤ N) {S : Nat → Prop} {w : World} {base p : Nat} {v : Value} {P : List Int} {A : Option Addr} {c : Nat} (hlc : l.len ≤ c ∧ c ≤ 9223372036854775807) (hl2 : 0 < l.len → ∃ g o, A = some ⟨g, o, none⟩ ∧ S g ∧ ObsR w S l g o) (hS : ∀ g, S g → g < base) (hbase : base ≤ w.heap.size) (ht : TabB base w) (hm : Mine w base v p P) (hf : fnL l) (hb : p + (prL l true).length + 2 ≤ 10000000000000) :
    Calls Tryd.prog 29 #[v, .slice A l.len c] w (GrP w base p P ([91] ++ prL l true ++ [93])) := by
  have HA0 := Lib.hid (paddS hm hbase ⟨#[91]⟩ (by have : (⟨#[91]⟩ : ByteArray).size = 1 := rfl; omega))
  have HIH := Lib.hid IH
  have HS := Lib.hid hS
  have HT := Lib.hid ht
  have HO := Lib.hid (And.intro hm.owned hbase)
  have HR0 : Hid (0 < l.len → ∃ g o, A = some ⟨g, o, none⟩ ∧ S g ∧ ObsR w S l g (o + 0 * 5)) := Lib.hid (fun h => by simpa using hl2 h)
  have HF0 := Lib.hid (And.intro hf hl)
  obtain ⟨LL, hLL⟩ : ∃ LL, l.len = LL := ⟨_, rfl⟩
  obtain ⟨TT, hTT⟩ : ∃ TT, prL l true = TT := ⟨_, rfl⟩
  have hmx : LL ≤ 9223372036854775807 := by omega
  rw [hTT] at hb ⊢
  rw [hLL] at hlc ⊢
  have HTT := Lib.hid hTT
  have HB := Lib.hid (And.intro hb hLL)
  obtain ⟨A0, c0, hv0, _⟩ := hm.byt
  subst hv0
  clear IH hl hlc hl2 hS hbase ht hm hf hb hLL hTT
  go_enter Tryd.func29, Tryd.ntmps29
  go_wp2_with (go_at_call 23; refine HA0.out.mono ?_; (rintro r w1 ⟨v1, rfl, hm1, hk1⟩); have HM1 : Hid (Mine w1 base v1 (p + 1 + ([] : List Int).length) (P ++ [91] ++ [])) := Lib.hid (by have h := hm1; rw [show strZ ⟨#[91]⟩ = [91] from rfl, show (⟨#[91]⟩ : ByteArray).size = 1 from rfl] at h; simpa using h); have HB1 := Lib.hid (hk1.below HO.out.2 HO.out.1); clear hm1 hk1)
  go_loopw [0, 5, 6, 12] (fun s0 s5 s6 s12 wr => ∃ (i : Nat) (r : Obs) (pre : List Int), i + r.len = LL ∧ s12 = .int .i64 i ∧ Hid (Mine wr base s0 (p + 1 + pre.length) (P ++ [91] ++ pre)) ∧ Hid (Below base w wr) ∧ Hid (0 < r.len → ∃ g o, A = some ⟨g, o, none⟩ ∧ S g ∧ ObsR w S r g (o + i * 5)) ∧ Hid (pre ++ prL r (decide (i = 0)) = TT) ∧ Hid (fnL r ∧ r.sz ≤ N)) (fun _ _ _ s12 _ => LL - (intOf s12).toNat)
  case atStart => exact ⟨0, l, [], by rw [Nat.zero_add]; exact HB.out.2, rfl, HM1, HB1, HR0, Lib.hid HTT.out, HF0⟩
  case round =>
    obtain ⟨i, r, pre, hil, rfl, HM, HBE, HR, HP, HF⟩ := hrel
    obtain ⟨A2, c2, hv2, _⟩ := HM.out.byt
    subst hv2
    cases r with
    | nil =>
      have hil2 : i = LL := by simpa [Obs.len] using hil
      subst hil2
      have HLEN : Hid (pre = TT) := Lib.hid (by have := HP.out; rw [prL, List.append_nil] at this; exact this)
      have HA := Lib.hid (paddS HM.out (Nat.le_trans HO.out.2 HBE.out.size) ⟨#[93]⟩ (by have : (⟨#[93]⟩ : ByteArray).size = 1 := rfl; have := HB.out.1; have := HLEN.out; subst this; omega))
      clear hil
      go_wp2_with (go_at_call 23; refine HA.out.mono ?_; (rintro r w5 ⟨v5, rfl, hm5, hk5⟩); have HM5 := Lib.hid hm5; have HK5 := Lib.hid hk5; clear hm5 hk5)
      go_ret
      refine ⟨_, rfl, ?_, HBE.out.trans (HK5.out.below (Nat.le_trans HO.out.2 HBE.out.size) HM.out.owned)⟩
      have h := HM5.out
      rw [HLEN.out] at h
      have e : (P ++ [91] ++ TT ++ strZ ⟨#[93]⟩) = P ++ ([91] ++ TT ++ [93]) := by rw [show strZ ⟨#[93]⟩ = [93] from rfl]; simp
      rw [e] at h
      have e2 : p + 1 + TT.length + (⟨#[93]⟩ : ByteArray).size = p + ([91] ++ TT ++ [93]).length := by
        simp only [List.length_append, List.length_cons, List.length_nil]
        show p + 1 + TT.length + 1 = _
        omega
      rw [e2] at h
      exact h
    | cons x xs =>
      rw [Obs.len] at hil
      obtain ⟨g, o, rfl, hg, hob⟩ := HR.out (by simp [Obs.len])
      unfold ObsR at hob
      obtain ⟨⟨d0, d1, d2, d3, d4, q0, q1, q2, q3, q4, hxr⟩, hxs⟩ := hob
      obtain ⟨k9, n9, A29, m29, c29, A39, m39, c39, A49, m49, c49, rfl, rfl, rfl, rfl, rfl⟩ := hxr.form
      have e := fun j => World.cell?_of_block (a := ⟨g, j, none⟩) (HBE.out.block g (HS.out g hg))
      have x0 := (e _).trans q0
      have x1 := (e _).trans q1
      have x2 := (e _).trans q2
      have x3 := (e _).trans q3
      have x4 := (e _).trans q4
      have hff := HF.out
      unfold fnL at hff
      rw [Obs.sz] at hff
      have hb4 := (Below.refl wr.heap.size wr).alloc (Nat.le_refl _) (.cells #[.int .i64 k9, .int .i64 n9, .slice A29 m29 c29, .slice A39 m39 c39, .slice A49 m49 c49] 26)
      have hn4 := heap_alloc_new wr (.cells #[.int .i64 k9, .int .i64 n9, .slice A29 m29 c29, .slice A39 m39 c39, .slice A49 m49 c49] 26)
      obtain ⟨W4, hW4⟩ : ∃ W4, wr.alloc (.cells #[.int .i64 k9, .int .i64 n9, .slice A29 m29 c29, .slice A39 m39 c39, .slice A49 m49 c49] 26) = W4 := ⟨_, rfl⟩
      have hs4 : W4.heap.size = wr.heap.size + 1 := by rw [← hW4]; simp
      rw [hW4] at hb4 hn4
      have HB4 := Lib.hid (HBE.out.trans (hb4.mono (Nat.le_trans HO.out.2 HBE.out.size)))
      have HM4 := Lib.hid (HM.out.kept hb4)
      have HN4 := Lib.hid hn4
      have HW4 := Lib.hid hW4
      have HOF : Hid ((Value.slice A2 (p + 1 + pre.length) c2).ownBlock ≠ some wr.heap.size) := Lib.hid (fun e => by have := HM.out.lt _ e; omega)
      have HS4 := Lib.hid hs4
      have HXR := Lib.hid hxr
      have HXS : Hid (0 < xs.len → ∃ g' o', some (Addr.mk g o none) = some ⟨g', o', none⟩ ∧ S g' ∧ ObsR w S xs g' (o' + (i + 1) * 5)) := Lib.hid (fun _ => ⟨g, o, rfl, hg, by rw [show o + (i + 1) * 5 = o + i * 5 + 5 by omega]; exact hxs⟩)
      have HFF := Lib.hid hff
      have hi2 : (i : Int) < LL := by omega
      have HIL : Hid (i + 1 + xs.len = LL) := Lib.hid (by omega)
      clear hb4 hn4 hW4 hs4 hxr hxs hff q0 q1 q2 q3 q4 e hg hil
      go_upto_region 5 with fail
      rw [HW4.out]
      clear x0 x1 x2 x3 x4
      have y0 : W4.cell? ⟨wr.heap.size, 0, none⟩ = some (.int .i64 k9) := cell_of_row _ _ 0 _ _ (0, 0) HN4.out
      have y1 : W4.cell? ⟨wr.heap.size, 1, none⟩ = some (.int .i64 n9) := cell_of_row _ _ 1 _ _ (0, 0) HN4.out
      have y2 : W4.cell? ⟨wr.heap.size, 2, none⟩ = some (.slice A29 m29 c29) := cell_of_row _ _ 2 _ _ (0, 0) HN4.out
      have y3 : W4.cell? ⟨wr.heap.size, 3, none⟩ = some (.slice A39 m39 c39) := cell_of_row _ _ 3 _ _ (0, 0) HN4.out
      have y4 : W4.cell? ⟨wr.heap.size, 4, none⟩ = some (.slice A49 m49 c49) := cell_of_row _ _ 4 _ _ (0, 0) HN4.out
      by_cases hi0 : i = 0
      · have hig : ¬ (i : Int) > 0 := by omega
        have HPR : Hid (pre ++ (prO x ++ prL xs false) = TT) := Lib.hid (by have := HP.out; rw [prL, decide_eq_true hi0] at this; simpa using this)
        have HCV := Lib.hid (HIH.out x (by have := HFF.out.2; omega) S W4 base _ _ _ _ _ _ _ _ (ObR.keep (fun b hb => HB4.out.block b (HS.out b hb)) (fun _ h => h) x HXR.out) HS.out (Nat.le_trans HO.out.2 HB4.out.size) (HT.out.below HB4.out) HM4.out HFF.out.1.2.1 HFF.out.1.1 (by
          have h1 := congrArg List.length HPR.out
          simp only [List.length_append] at h1
          have := HB.out.1
          omega))
        clear hi0
        go_wp2_with (go_at_call 16; refine HCV.out.mono ?_; (rintro r w6 ⟨v6, rfl, hm6, hb6⟩); have HM6 := Lib.hid hm6; have HB6 := Lib.hid (HB4.out.trans hb6); clear hm6 hb6 y0 y1 y2 y3 y4)
        go_roundw
        case rel => exact ⟨i + 1, xs, pre ++ prO x, HIL.out, by go_num, Lib.hid (by have := HM6.out; rw [List.length_append, ← Nat.add_assoc, ← List.append_assoc]; exact this), HB6, HXS, Lib.hid (by rw [decide_eq_false (by omega : ¬ i + 1 = 0), List.append_assoc]; exact HPR.out), Lib.hid ⟨HFF.out.1.2.2, by have := HFF.out.2; omega⟩⟩
        case measure => simp [intOf]; omega
      · have hig : (i : Int) > 0 := by omega
        have HPR : Hid (pre ++ ([32] ++ (prO x ++ prL xs false)) = TT) := Lib.hid (by have := HP.out; rw [prL, decide_eq_false hi0] at this; simpa using this)
        have HLT : Hid (pre.length + 1 + (prO x).length ≤ TT.length) := Lib.hid (by
          have h1 := congrArg List.length HPR.out
          simp only [List.length_append, List.length_cons, List.length_nil] at h1
          omega)
        have HA := Lib.hid (paddS HM4.out (Nat.le_trans HO.out.2 HB4.out.size) ⟨#[32]⟩ (by have : (⟨#[32]⟩ : ByteArray).size = 1 := rfl; have := HB.out.1; have := HLT.out; omega))
        clear hi0
        go_wp2_with (first
          | (go_at_call 23; refine HA.out.mono ?_; (rintro r w5 ⟨v5, rfl, hm5, hk5⟩); clear y0 y1 y2 y3 y4; have e5 := hk5.block wr.heap.size (by have := HS4.out; omega) HOF.out; have hn5 := e5.trans HN4.out; have y0 : w5.cell? ⟨wr.heap.size, 0, none⟩ = some (.int .i64 k9) := cell_of_row _ _ 0 _ _ (0, 0) hn5; have y1 : w5.cell? ⟨wr.heap.size, 1, none⟩ = some (.int .i64 n9) := cell_of_row _ _ 1 _ _ (0, 0) hn5; have y2 : w5.cell? ⟨wr.heap.size, 2, none⟩ = some (.slice A29 m29 c29) := cell_of_row _ _ 2 _ _ (0, 0) hn5; have y3 : w5.cell? ⟨wr.heap.size, 3, none⟩ = some (.slice A39 m39 c39) := cell_of_row _ _ 3 _ _ (0, 0) hn5; have y4 : w5.cell? ⟨wr.heap.size, 4, none⟩ = some (.slice A49 m49 c49) := cell_of_row _ _ 4 _ _ (0, 0) hn5; have HB5 := Lib.hid (HB4.out.trans (hk5.below (Nat.le_trans HO.out.2 HB4.out.size) HM4.out.owned)); have HM5 := Lib.hid hm5; clear hm5 hk5 e5 hn5; have HCV := Lib.hid (HIH.out x (by have := HFF.out.2; omega) S w5 base _ _ _ _ _ _ _ _ (ObR.keep (fun b hb => HB5.out.block b (HS.out b hb)) (fun _ h => h) x HXR.out) HS.out (Nat.le_trans HO.out.2 HB5.out.size) (HT.out.below HB5.out) HM5.out HFF.out.1.2.1 HFF.out.1.1 (by
              have h1 := HLT.out
              have := HB.out.1
              show p + 1 + pre.length + 1 + (prO x).length ≤ 10000000000000
              omega)))
          | (go_at_call 16; refine HCV.out.mono ?_; (rintro r w6 ⟨v6, rfl, hm6, hb6⟩); have HM6 := Lib.hid hm6; have HB6 := Lib.hid (HB5.out.trans hb6); clear hm6 hb6 y0 y1 y2 y3 y4))
        go_roundw
        case rel => exact ⟨i + 1, xs, pre ++ [32] ++ prO x, HIL.out, by go_num, Lib.hid (by
          have h := HM6.out
          rw [show strZ ⟨#[32]⟩ = [32] from rfl] at h
          have e1 : p + 1 + (pre ++ [32] ++ prO x).length = p + 1 + pre.length + (⟨#[32]⟩ : ByteArray).size + (prO x).length := by
            simp only [List.length_append, List.length_cons, List.length_nil]
            show _ = p + 1 + pre.length + 1 + (prO x).length
            omega
          have e2 : P ++ [91] ++ (pre ++ [32] ++ prO x) = P ++ [91] ++ pre ++ [32] ++ prO x := by simp
          rw [e1, e2]
          exact h), HB6, HXS, Lib.hid (by rw [decide_eq_false (by omega : ¬ i + 1 = 0), ← HPR.out]; simp), Lib.hid ⟨HFF.out.1.2.2, by have := HFF.out.2; omega⟩⟩
        case measure => simp [intOf]; omega
end

section
open Go.RowKit
set_option linter.unusedVariables false
set_option maxRecDepth 100000
set_option maxHeartbeats 4000000 in
theorem pentries {N : Nat} (IH : ValC N) (l : Ens) (hl : l.sz ≤ N) {S : Nat → Prop} {w : World} {base p : Nat} {v : Value} {P : List Int} {A : Option Addr} {c : Nat} (hlc : l.len ≤ c ∧ c ≤ 9223372036854775807) (hl2 : 0 < l.len → ∃ g o, A = some ⟨g, o, none⟩ ∧ S g ∧ EnsR w S l g o) (hS : ∀ g, S g → g < base) (hbase : base ≤ w.heap.size) (ht : TabB base w) (hm : Mine w base v p P) (hf : fnE l) (hb : p + (prE l).length + 4 ≤ 10000000000000) :
    Calls Tryd.prog 30 #[v, .slice A l.len c] w (GrP w base p P ([60, 60] ++ prE l ++ [62, 62])) := by
  have kc := fun (w : World) (C : Array Value) (n c : Nat) => Lib.run_convert_bytes_const (P := Tryd.prog) w 22 5 C n c Tryd.underlying22 Tryd.underlying5
  have HA0 := Lib.hid (paddS hm hbase ⟨#[60, 60]⟩ (by have : (⟨#[60, 60]⟩ : ByteArray).size = 2 := rfl; omega))
  have HIH := Lib.hid IH
  have HS := Lib.hid hS
  have HT := Lib.hid ht
  have HO := Lib.hid (And.intro hm.owned hbase)
  have HR0 : Hid (0 < l.len → ∃ g o, A = some ⟨g, o, none⟩ ∧ S g ∧ EnsR w S l g (o + 0 * 6)) := Lib.hid (fun h => by simpa using hl2 h)
  have HF0 := Lib.hid (And.intro hf hl)
  obtain ⟨LL, hLL⟩ : ∃ LL, l.len = LL := ⟨_, rfl⟩
  obtain ⟨TT, hTT⟩ : ∃ TT, prE l = TT := ⟨_, rfl⟩
  have hmx : LL ≤ 9223372036854775807 := by omega
  rw [hTT] at hb ⊢
  rw [hLL] at hlc ⊢
  have HTT := Lib.hid hTT
  have HB := Lib.hid (And.intro hb hLL)
  obtain ⟨A0, c0, hv0, _⟩ := hm.byt
  subst hv0
  clear IH hl hlc hl2 hS hbase ht hm hf hb hLL hTT
  go_enter Tryd.func30, Tryd.ntmps30
  go_wp2_with (go_at_call 23; refine HA0.out.mono ?_; (rintro r w1 ⟨v1, rfl, hm1, hk1⟩); have HM1 : Hid (Mine w1 base v1 (p + 2 + ([] : List Int).length) (P ++ [60, 60] ++ [])) := Lib.hid (by have h := hm1; rw [show strZ ⟨#[60, 60]⟩ = [60, 60] from rfl, show (⟨#[60, 60]⟩ : ByteArray).size = 2 from rfl] at h; simpa using h); have HB1 := Lib.hid (hk1.below HO.out.2 HO.out.1); clear hm1 hk1)
  go_loopw [0, 6, 12] (fun s0 s6 s12 wr => ∃ (i : Nat) (r : Ens) (pre : List Int), i + r.len = LL ∧ s12 = .int .i64 i ∧ Hid (Mine wr base s0 (p + 2 + pre.length) (P ++ [60, 60] ++ pre)) ∧ Hid (Below base w wr) ∧ Hid (0 < r.len → ∃ g o, A = some ⟨g, o, none⟩ ∧ S g ∧ EnsR w S r g (o + i * 6)) ∧ Hid (pre ++ prE r = TT) ∧ Hid (fnE r ∧ r.sz ≤ N)) (fun _ _ s12 _ => LL - (intOf s12).toNat)
  case atStart => exact ⟨0, l, [], by rw [Nat.zero_add]; exact HB.out.2, rfl, HM1, HB1, HR0, Lib.hid HTT.out, HF0⟩
  case round =>
    obtain ⟨i, r, pre, hil, rfl, HM, HBE, HR, HP, HF⟩ := hrel
    obtain ⟨A2, c2, hv2, _⟩ := HM.out.byt
    subst hv2
    cases r with
    | nil =>
      have hil2 : i = LL := by simpa [Ens.len] using hil
      subst hil2
      have HLEN : Hid (pre = TT) := Lib.hid (by have := HP.out; rw [prE, List.append_nil] at this; exact this)
      have HA := Lib.hid (paddS HM.out (Nat.le_trans HO.out.2 HBE.out.size) ⟨#[62, 62]⟩ (by have : (⟨#[62, 62]⟩ : ByteArray).size = 2 := rfl; have := HB.out.1; have := HLEN.out; subst this; omega))
      clear hil
      go_wp2_with (go_at_call 23; refine HA.out.mono ?_; (rintro r w5 ⟨v5, rfl, hm5, hk5⟩); have HM5 := Lib.hid hm5; have HK5 := Lib.hid hk5; clear hm5 hk5)
      go_ret
      refine ⟨_, rfl, ?_, HBE.out.trans (HK5.out.below (Nat.le_trans HO.out.2 HBE.out.size) HM.out.owned)⟩
      have h := HM5.out
      rw [HLEN.out] at h
      have e : (P ++ [60, 60] ++ TT ++ strZ ⟨#[62, 62]⟩) = P ++ ([60, 60] ++ TT ++ [62, 62]) := by rw [show strZ ⟨#[62, 62]⟩ = [62, 62] from rfl]; simp
      rw [e] at h
      have e2 : p + 2 + TT.length + (⟨#[62, 62]⟩ : ByteArray).size = p + ([60, 60] ++ TT ++ [62, 62]).length := by
        simp only [List.length_append, List.length_cons, List.length_nil]
        show p + 2 + TT.length + 2 = _
        omega
      rw [e2] at h
      exact h
    | cons s x xs =>
      rw [Ens.len] at hil
      obtain ⟨g, o, rfl, hg, hob⟩ := HR.out (by simp [Ens.len])
      unfold EnsR at hob
      obtain ⟨⟨d0, d1, d2, d3, d4, qs, q0, q1, q2, q3, q4, hxr⟩, hxs⟩ := hob
      obtain ⟨k9, n9, A29, m29, c29, A39, m39, c39, A49, m49, c49, rfl, rfl, rfl, rfl, rfl⟩ := hxr.form
      have e := fun j => World.cell?_of_block (a := ⟨g, j, none⟩) (HBE.out.block g (HS.out g hg))
      have x0 := (e _).trans qs
      have x1 := (e _).trans q0
      have x2 := (e _).trans q1
      have x3 := (e _).trans q2
      have x4 := (e _).trans q3
      have x5 := (e _).trans q4
      have hff := HF.out
      unfold fnE at hff
      rw [Ens.sz] at hff
      have hb4 := (Below.refl wr.heap.size wr).alloc (Nat.le_refl _) (.cells #[.string s, .int .i64 k9, .int .i64 n9, .slice A29 m29 c29, .slice A39 m39 c39, .slice A49 m49 c49] 36)
      have hn4 := heap_alloc_new wr (.cells #[.string s, .int .i64 k9, .int .i64 n9, .slice A29 m29 c29, .slice A39 m39 c39, .slice A49 m49 c49] 36)
      obtain ⟨W4, hW4⟩ : ∃ W4, wr.alloc (.cells #[.string s, .int .i64 k9, .int .i64 n9, .slice A29 m29 c29, .slice A39 m39 c39, .slice A49 m49 c49] 36) = W4 := ⟨_, rfl⟩
      have hs4 : W4.heap.size = wr.heap.size + 1 := by rw [← hW4]; simp
      rw [hW4] at hb4 hn4
      have HB4 := Lib.hid (HBE.out.trans (hb4.mono (Nat.le_trans HO.out.2 HBE.out.size)))
      have HM4 := Lib.hid (HM.out.kept hb4)
      have HN4 := Lib.hid hn4
      have HW4 := Lib.hid hW4
      have HOF : Hid ((Value.slice A2 (p + 2 + pre.length) c2).ownBlock ≠ some wr.heap.size) := Lib.hid (fun e => by have := HM.out.lt _ e; omega)
      have HS4 := Lib.hid hs4
      have HXR := Lib.hid hxr
      have HXS : Hid (0 < xs.len → ∃ g' o', some (Addr.mk g o none) = some ⟨g', o', none⟩ ∧ S g' ∧ EnsR w S xs g' (o' + (i + 1) * 6)) := Lib.hid (fun _ => ⟨g, o, rfl, hg, by rw [show o + (i + 1) * 6 = o + i * 6 + 6 by omega]; exact hxs⟩)
      have HFF := Lib.hid hff
      have hi2 : (i : Int) < LL := by omega
      have HIL : Hid (i + 1 + xs.len = LL) := Lib.hid (by omega)
      have HNM := Lib.hid (pNm s W4 (by have := hff.1.1; omega))
      have HPR : Hid (pre ++ ((47 :: nmS (strZ s)) ++ ([32] ++ (prO x ++ prE xs))) = TT) := Lib.hid (by have := HP.out; rw [prE] at this; rw [← this]; simp)
      have HLT : Hid (pre.length + ((47 :: nmS (strZ s)).length + 1 + (prO x).length) ≤ TT.length) := Lib.hid (by
        have h1 := congrArg List.length HPR.out
        simp only [List.length_append, List.length_cons, List.length_nil] at h1 ⊢
        omega)
      obtain ⟨NM, hNM⟩ : ∃ NM, 47 :: nmS (strZ s) = NM := ⟨_, rfl⟩
      rw [hNM] at HNM HPR HLT
      clear hb4 hn4 hW4 hs4 hxr hxs hff qs q0 q1 q2 q3 q4 e hg hil hNM
      go_upto_region 5 with fail
      rw [HW4.out]
      clear x0 x1 x2 x3 x4 x5
      have y0 : W4.cell? ⟨wr.heap.size, 0, none⟩ = some (.string s) := cell_of_row _ _ 0 _ _ (0, 0) HN4.out
      go_wp2_with (first
        | (go_at_call 28; refine HNM.out.mono ?_; (rintro r w5 ⟨v5, rfl, hm5, hb5⟩); obtain ⟨A5, c5, rfl, hy5⟩ := hm5.byt; have HY5 := Lib.hid hy5; have HW5 := Lib.hid hb5; have HO5 : Hid (∀ b o, 0 < NM.length → A5 = some ⟨b, o, none⟩ → W4.heap.size ≤ b) := Lib.hid (fun b o h0 e => by subst e; exact hm5.owned b rfl); clear hy5 hm5 hb5 y0; have HB32 := Lib.hid ((Below.refl w5.heap.size w5).alloc (Nat.le_refl _) (.cells #[.int .u8 32] 5 (1, 2))); have HM5 := Lib.hid (HM4.out.kept (HW5.out.trans (HB32.out.mono HW5.out.size))); have HB5 := Lib.hid (HB4.out.trans ((HW5.out.trans (HB32.out.mono HW5.out.size)).mono (Nat.le_trans HO.out.2 HB4.out.size))); have HAD := Lib.hid (paddN (s := false) (.inl HM5.out) (Nat.le_trans HO.out.2 HB5.out.size) (GA := w5.heap.size + 1) (by simp) [⟨A5, NM.length, c5, NM⟩, ⟨some ⟨w5.heap.size, 0, none⟩, 1, 1, [32]⟩] (fun q hq => by
            rcases List.mem_cons.1 hq with rfl | hq
            · exact ⟨(HY5.out.below HB32.out (Nat.le_refl _)).more HB32.out.size, fun h0 b o e e2 => by have h5 := HO5.out b o h0 e; have := HM4.out.lt _ e2; omega⟩
            · rw [List.mem_singleton] at hq
              subst hq
              exact ⟨(byt_lit w5 (1, 2) [32] (by decide) 1 rfl #[.int .u8 32] rfl).more (by simp), fun _ b o e e2 => by injection e with e; injection e with e _; have := HM4.out.lt _ e2; have := HW5.out.size; omega⟩) (by rw [flat2]; simp only [List.length_append, List.length_cons, List.length_nil]; have := HLT.out; have := HB.out.1; omega) (by simp)))
        | (go_at_call 26; refine HAD.out.mono ?_; (rintro r w6 ⟨v6, rfl, hm6, hk6⟩); have e6 := (hk6.block wr.heap.size (by have := HS4.out; have := HW5.out.size; have := HB32.out.size; omega) HOF.out).trans ((HB32.out.block wr.heap.size (by have := HS4.out; have := HW5.out.size; omega)).trans (HW5.out.block wr.heap.size (by have := HS4.out; omega))); have hn5 := e6.trans HN4.out; have y1 : w6.cell? ⟨wr.heap.size, 1, none⟩ = some (.int .i64 k9) := cell_of_row _ _ 1 _ _ (0, 0) hn5; have y2 : w6.cell? ⟨wr.heap.size, 2, none⟩ = some (.int .i64 n9) := cell_of_row _ _ 2 _ _ (0, 0) hn5; have y3 : w6.cell? ⟨wr.heap.size, 3, none⟩ = some (.slice A29 m29 c29) := cell_of_row _ _ 3 _ _ (0, 0) hn5; have y4 : w6.cell? ⟨wr.heap.size, 4, none⟩ = some (.slice A39 m39 c39) := cell_of_row _ _ 4 _ _ (0, 0) hn5; have y5 : w6.cell? ⟨wr.heap.size, 5, none⟩ = some (.slice A49 m49 c49) := cell_of_row _ _ 5 _ _ (0, 0) hn5; have HB6 := Lib.hid (HB5.out.trans (hk6.below (Nat.le_trans HO.out.2 HB5.out.size) HM5.out.owned)); have HM6 := Lib.hid hm6.mine; clear hm6 hk6 e6 hn5; have HCV := Lib.hid (HIH.out x (by have := HFF.out.2; omega) S w6 base _ _ _ _ _ _ _ _ (ObR.keep (fun b hb => HB6.out.block b (HS.out b hb)) (fun _ h => h) x HXR.out) HS.out (Nat.le_trans HO.out.2 HB6.out.size) (HT.out.below HB6.out) HM6.out HFF.out.1.2.2.1 HFF.out.1.2.1 (by
              have h1 := HLT.out
              have := HB.out.1
              rw [flat2]
              simp only [List.length_append, List.length_cons, List.length_nil]
              omega)))
        | (go_at_call 16; refine HCV.out.mono ?_; (rintro r w7 ⟨v7, rfl, hm7, hb7⟩); have HM7 := Lib.hid hm7; have HB7 := Lib.hid (HB6.out.trans hb7); clear hm7 hb7 y1 y2 y3 y4 y5))
      go_roundw
      case rel => exact ⟨i + 1, xs, pre ++ NM ++ [32] ++ prO x, HIL.out, by go_num, Lib.hid (by
        have h := HM7.out
        rw [flat2] at h
        dsimp only at h
        have e1 : p + 2 + (pre ++ NM ++ [32] ++ prO x).length = p + 2 + pre.length + (NM ++ [32]).length + (prO x).length := by
          simp only [List.length_append, List.length_cons, List.length_nil]
          omega
        have e2 : P ++ [60, 60] ++ (pre ++ NM ++ [32] ++ prO x) = P ++ [60, 60] ++ pre ++ (NM ++ [32]) ++ prO x := by simp
        rw [e1, e2]
        exact h), HB7, HXS, Lib.hid (by rw [← HPR.out]; simp), Lib.hid ⟨HFF.out.1.2.2.2, by have := HFF.out.2; omega⟩⟩
      case measure => simp [intOf]; omega
end
end Go.Proofs.YtliieeagbpmcgaaDoor
