/- Contracts of functions that the law calls, and what they lean on (a part). -/
import Derived.Test.YtliieeagbpmcgaaGreatDoorPv22
import Derived.Test.YtliieeagbpmcgaaGreatDoorPv40
import Derived.Test.YtliieeagbpmcgaaGreatDoorPv41
namespace Go.Proofs.YtliieeagbpmcgaaGreatDoor
section
open Go.RowKit
set_option linter.unusedVariables false
set_option maxRecDepth 100000
/-- The table lies, and stays as long as what is old stays. -/
def TabB (B : Nat) (w : World) : Prop := ∃ w0, Tab w0 ∧ w0.heap.size ≤ B ∧ Below B w0 w
theorem TabB.tab {B : Nat} {w : World} (h : TabB B w) : Tab w := by
  obtain ⟨w0, h0, hs, hb⟩ := h
  exact h0.below hb hs
theorem TabB.below {B : Nat} {w w' : World} (h : TabB B w) (hb : Below B w w') : TabB B w' := by
  obtain ⟨w0, h0, hs, hb0⟩ := h
  exact ⟨w0, h0, hs, hb0.trans hb⟩
theorem TabB.of {w : World} (h : Tab w) : TabB w.heap.size w := ⟨w, h, Nat.le_refl _, Below.refl _ _⟩
/-- A row has grown. -/
def GrP (w : World) (base p : Nat) (P R : List Int) (r : Ending) (w' : World) : Prop := ∃ v', r = .returned v' ∧ Mine w' base v' (p + R.length) (P ++ R) ∧ Below base w w'
theorem strZ_text (n : Int) (whole : Bool) : strZ ⟨(textB n whole).toArray⟩ = nuZ n whole := by unfold strZ nuZ zsB; simp
theorem pnum {w : World} {base p : Nat} {v : Value} {P : List Int} (h : Mine w base v p P) (hbase : base ≤ w.heap.size) (ht : TabB base w) (n : Int) (whole : Bool) (h0 : -9223372036854775808 ≤ n) (h1 : n ≤ 9223372036854775807) (hb : p ≤ 100000000000000) :
    Calls Tryz.prog 49 #[v, .int .i64 n, .bool whole] w (GrP w base p P (nuZ n whole)) := by
  have HT := Lib.hid (fxText n whole w h0 h1 ht.tab)
  have hl := nuZ_len n whole
  have hz := strZ_text n whole
  obtain ⟨T, hT⟩ : ∃ T : ByteArray, ⟨(textB n whole).toArray⟩ = T := ⟨_, rfl⟩
  rw [hT] at HT hz
  obtain ⟨R, hR⟩ : ∃ R, nuZ n whole = R := ⟨_, rfl⟩
  rw [hR] at hz hl ⊢
  have hsz : T.size = R.length := by rw [← hz, strZ_len]
  have HA := Lib.hid (fun W (hW : Below w.heap.size w W) => paddS (h.kept hW) (Nat.le_trans hbase hW.size) T (by omega))
  have HZ := Lib.hid (And.intro hz hsz)
  have HO := Lib.hid (And.intro h.owned hbase)
  obtain ⟨A0, c0, hv0, _⟩ := h.byt
  subst hv0
  clear hT hR hz hl hsz h ht hb hbase
  go_enter Tryz.func49, Tryz.ntmps49
  go_wp2_with (first
    | (go_at_call 93; refine HT.out.mono ?_; (rintro r w2 ⟨rfl, hb2⟩); have HB2 := Lib.hid hb2; clear hb2)
    | (go_at_call 50; refine (HA.out w2 HB2.out).mono ?_; (rintro r w3 ⟨v3, rfl, hm3, hk3⟩); have HM3 := Lib.hid hm3; have HK3 := Lib.hid hk3; clear hm3 hk3))
  go_ret
  refine ⟨_, rfl, ?_, (HB2.out.mono HO.out.2).trans (HK3.out.below (Nat.le_trans HO.out.2 HB2.out.size) HO.out.1)⟩
  have := HM3.out
  rw [HZ.out.1, HZ.out.2] at this
  exact this
theorem truC (n : Int) (w : World) : Calls Tryz.prog 89 #[.int .i64 n] w fun r w' => r = .returned (.string (if n = 1 then ⟨#[116, 114, 117, 101]⟩ else ⟨#[102, 97, 108, 115, 101]⟩)) ∧ w = w' := by
  by_cases h : n = 1
  · subst h
    go_enter Tryz.func89, Tryz.ntmps89
    go_wp2_with fail
    go_ret
    exact ⟨rfl, rfl⟩
  · rw [if_neg h]
    have h1 : (n == 1) = false := by simpa using h
    clear h
    go_enter Tryz.func89, Tryz.ntmps89
    go_wp2_with fail
    go_ret
    exact ⟨rfl, rfl⟩
def ValC (N : Nat) : Prop := ∀ (x : Ob), x.sz ≤ N → ∀ (S : Nat → Prop) (w : World) (base p : Nat) (v : Value) (P : List Int) (c0 c1 c2 c3 c4 : Value), ObR w S x c0 c1 c2 c3 c4 → (∀ g, S g → g < base) → base ≤ w.heap.size → TabB base w → Mine w base v p P → fnO x → x.kind ≠ 8 → p + (prO x).length ≤ 10000000000000 →
  Calls Tryz.prog 46 #[v, .agg #[c0, c1, c2, c3, c4]] w (GrP w base p P (prO x))
set_option maxHeartbeats 4000000 in
theorem pitems {N : Nat} (IH : ValC N) (l : Obs) (hl : l.sz ≤ N) {S : Nat → Prop} {w : World} {base p : Nat} {v : Value} {P : List Int} {A : Option Addr} {c : Nat} (hlc : l.len ≤ c ∧ c ≤ 9223372036854775807) (hl2 : 0 < l.len → ∃ g o, A = some ⟨g, o, none⟩ ∧ S g ∧ ObsR w S l g o) (hS : ∀ g, S g → g < base) (hbase : base ≤ w.heap.size) (ht : TabB base w) (hm : Mine w base v p P) (hf : fnL l) (hb : p + (prL l true).length + 2 ≤ 10000000000000) :
    Calls Tryz.prog 90 #[v, .slice A l.len c] w (GrP w base p P ([91] ++ prL l true ++ [93])) := by
  have HA0 := Lib.hid (paddS hm hbase ⟨#[91]⟩ (by have : (⟨#[91]⟩ : ByteArray).size = 1 := rfl; omega))
  have HIH := Lib.hid IH
  have HS := Lib.hid hS
  have HT := Lib.hid ht
  have HO := Lib.hid (And.intro hm.owned hbase)
  have HR0 : Hid (0 < l.len → ∃ g o, A = some ⟨g, o, none⟩ ∧ S g ∧ ObsR w S l g (o + 0 * 5)) := Lib.hid (fun h => by simpa using hl2 h)
  have HF0 := Lib.hid (And.intro hf hl)
  obtain ⟨LL, hLL⟩ : ∃ LL, l.len = LL := ⟨_, rfl⟩
  obtain ⟨TT, hTT⟩ : ∃ TT, prL l true = TT := ⟨_, rfl⟩
  have hmx : LL ≤ 9223372036854775807 := by omega
  rw [hTT] at hb ⊢
  rw [hLL] at hlc ⊢
  have HTT := Lib.hid hTT
  have HB := Lib.hid (And.intro hb hLL)
  obtain ⟨A0, c0, hv0, _⟩ := hm.byt
  subst hv0
  clear IH hl hlc hl2 hS hbase ht hm hf hb hLL hTT
  go_enter Tryz.func90, Tryz.ntmps90
  go_wp2_with (go_at_call 50; refine HA0.out.mono ?_; (rintro r w1 ⟨v1, rfl, hm1, hk1⟩); have HM1 : Hid (Mine w1 base v1 (p + 1 + ([] : List Int).length) (P ++ [91] ++ [])) := Lib.hid (by have h := hm1; rw [show strZ ⟨#[91]⟩ = [91] from rfl, show (⟨#[91]⟩ : ByteArray).size = 1 from rfl] at h; simpa using h); have HB1 := Lib.hid (hk1.below HO.out.2 HO.out.1); clear hm1 hk1)
  go_loopw [0, 5, 6, 12] (fun s0 s5 s6 s12 wr => ∃ (i : Nat) (r : Obs) (pre : List Int), i + r.len = LL ∧ s12 = .int .i64 i ∧ Hid (Mine wr base s0 (p + 1 + pre.length) (P ++ [91] ++ pre)) ∧ Hid (Below base w wr) ∧ Hid (0 < r.len → ∃ g o, A = some ⟨g, o, none⟩ ∧ S g ∧ ObsR w S r g (o + i * 5)) ∧ Hid (pre ++ prL r (decide (i = 0)) = TT) ∧ Hid (fnL r ∧ r.sz ≤ N)) (fun _ _ _ s12 _ => LL - (intOf s12).toNat)
  case atStart => exact ⟨0, l, [], by rw [Nat.zero_add]; exact HB.out.2, rfl, HM1, HB1, HR0, Lib.hid HTT.out, HF0⟩
  case round =>
    obtain ⟨i, r, pre, hil, rfl, HM, HBE, HR, HP, HF⟩ := hrel
    obtain ⟨A2, c2, hv2, _⟩ := HM.out.byt
    subst hv2
    cases r with
    | nil =>
      have hil2 : i = LL := by simpa [Obs.len] using hil
      subst hil2
      have HLEN : Hid (pre = TT) := Lib.hid (by have := HP.out; rw [prL, List.append_nil] at this; exact this)
      have HA := Lib.hid (paddS HM.out (Nat.le_trans HO.out.2 HBE.out.size) ⟨#[93]⟩ (by have : (⟨#[93]⟩ : ByteArray).size = 1 := rfl; have := HB.out.1; have := HLEN.out; subst this; omega))
      clear hil
      go_wp2_with (go_at_call 50; refine HA.out.mono ?_; (rintro r w5 ⟨v5, rfl, hm5, hk5⟩); have HM5 := Lib.hid hm5; have HK5 := Lib.hid hk5; clear hm5 hk5)
      go_ret
      refine ⟨_, rfl, ?_, HBE.out.trans (HK5.out.below (Nat.le_trans HO.out.2 HBE.out.size) HM.out.owned)⟩
      have h := HM5.out
      rw [HLEN.out] at h
      have e : (P ++ [91] ++ TT ++ strZ ⟨#[93]⟩) = P ++ ([91] ++ TT ++ [93]) := by rw [show strZ ⟨#[93]⟩ = [93] from rfl]; simp
      rw [e] at h
      have e2 : p + 1 + TT.length + (⟨#[93]⟩ : ByteArray).size = p + ([91] ++ TT ++ [93]).length := by
        simp only [List.length_append, List.length_cons, List.length_nil]
        show p + 1 + TT.length + 1 = _
        omega
      rw [e2] at h
      exact h
    | cons x xs =>
      rw [Obs.len] at hil
      obtain ⟨g, o, rfl, hg, hob⟩ := HR.out (by simp [Obs.len])
      unfold ObsR at hob
      obtain ⟨⟨d0, d1, d2, d3, d4, q0, q1, q2, q3, q4, hxr⟩, hxs⟩ := hob
      obtain ⟨k9, n9, A29, m29, c29, A39, m39, c39, A49, m49, c49, rfl, rfl, rfl, rfl, rfl⟩ := hxr.form
      have e := fun j => World.cell?_of_block (a := ⟨g, j, none⟩) (HBE.out.block g (HS.out g hg))
      have x0 := (e _).trans q0
      have x1 := (e _).trans q1
      have x2 := (e _).trans q2
      have x3 := (e _).trans q3
      have x4 := (e _).trans q4
      have hff := HF.out
      unfold fnL at hff
      rw [Obs.sz] at hff
      have hb4 := (Below.refl wr.heap.size wr).alloc (Nat.le_refl _) (.cells #[.int .i64 k9, .int .i64 n9, .slice A29 m29 c29, .slice A39 m39 c39, .slice A49 m49 c49] 30)
      have hn4 := heap_alloc_new wr (.cells #[.int .i64 k9, .int .i64 n9, .slice A29 m29 c29, .slice A39 m39 c39, .slice A49 m49 c49] 30)
      obtain ⟨W4, hW4⟩ : ∃ W4, wr.alloc (.cells #[.int .i64 k9, .int .i64 n9, .slice A29 m29 c29, .slice A39 m39 c39, .slice A49 m49 c49] 30) = W4 := ⟨_, rfl⟩
      have hs4 : W4.heap.size = wr.heap.size + 1 := by rw [← hW4]; simp
      rw [hW4] at hb4 hn4
      have HB4 := Lib.hid (HBE.out.trans (hb4.mono (Nat.le_trans HO.out.2 HBE.out.size)))
      have HM4 := Lib.hid (HM.out.kept hb4)
      have HN4 := Lib.hid hn4
      have HW4 := Lib.hid hW4
      have HOF : Hid ((Value.slice A2 (p + 1 + pre.length) c2).ownBlock ≠ some wr.heap.size) := Lib.hid (fun e => by have := HM.out.lt _ e; omega)
      have HS4 := Lib.hid hs4
      have HXR := Lib.hid hxr
      have HXS : Hid (0 < xs.len → ∃ g' o', some (Addr.mk g o none) = some ⟨g', o', none⟩ ∧ S g' ∧ ObsR w S xs g' (o' + (i + 1) * 5)) := Lib.hid (fun _ => ⟨g, o, rfl, hg, by rw [show o + (i + 1) * 5 = o + i * 5 + 5 by omega]; exact hxs⟩)
      have HFF := Lib.hid hff
      have hi2 : (i : Int) < LL := by omega
      have HIL : Hid (i + 1 + xs.len = LL) := Lib.hid (by omega)
      clear hb4 hn4 hW4 hs4 hxr hxs hff q0 q1 q2 q3 q4 e hg hil
      go_upto_region 5 with fail
      rw [HW4.out]
      clear x0 x1 x2 x3 x4
      have y0 : W4.cell? ⟨wr.heap.size, 0, none⟩ = some (.int .i64 k9) := cell_of_row _ _ 0 _ _ (0, 0) HN4.out
      have y1 : W4.cell? ⟨wr.heap.size, 1, none⟩ = some (.int .i64 n9) := cell_of_row _ _ 1 _ _ (0, 0) HN4.out
      have y2 : W4.cell? ⟨wr.heap.size, 2, none⟩ = some (.slice A29 m29 c29) := cell_of_row _ _ 2 _ _ (0, 0) HN4.out
      have y3 : W4.cell? ⟨wr.heap.size, 3, none⟩ = some (.slice A39 m39 c39) := cell_of_row _ _ 3 _ _ (0, 0) HN4.out
      have y4 : W4.cell? ⟨wr.heap.size, 4, none⟩ = some (.slice A49 m49 c49) := cell_of_row _ _ 4 _ _ (0, 0) HN4.out
      by_cases hi0 : i = 0
      · have hig : ¬ (i : Int) > 0 := by omega
        have HPR : Hid (pre ++ (prO x ++ prL xs false) = TT) := Lib.hid (by have := HP.out; rw [prL, decide_eq_true hi0] at this; simpa using this)
        have HCV := Lib.hid (HIH.out x (by have := HFF.out.2; omega) S W4 base _ _ _ _ _ _ _ _ (ObR.keep (fun b hb => HB4.out.block b (HS.out b hb)) (fun _ h => h) x HXR.out) HS.out (Nat.le_trans HO.out.2 HB4.out.size) (HT.out.below HB4.out) HM4.out HFF.out.1.2.1 HFF.out.1.1 (by
          have h1 := congrArg List.length HPR.out
          simp only [List.length_append] at h1
          have := HB.out.1
          omega))
        clear hi0
        go_wp2_with (go_at_call 46; refine HCV.out.mono ?_; (rintro r w6 ⟨v6, rfl, hm6, hb6⟩); have HM6 := Lib.hid hm6; have HB6 := Lib.hid (HB4.out.trans hb6); clear hm6 hb6 y0 y1 y2 y3 y4)
        go_roundw
        case rel => exact ⟨i + 1, xs, pre ++ prO x, HIL.out, by go_num, Lib.hid (by have := HM6.out; rw [List.length_append, ← Nat.add_assoc, ← List.append_assoc]; exact this), HB6, HXS, Lib.hid (by rw [decide_eq_false (by omega : ¬ i + 1 = 0), List.append_assoc]; exact HPR.out), Lib.hid ⟨HFF.out.1.2.2, by have := HFF.out.2; omega⟩⟩
        case measure => simp [intOf]; omega
      · have hig : (i : Int) > 0 := by omega
        have HPR : Hid (pre ++ ([32] ++ (prO x ++ prL xs false)) = TT) := Lib.hid (by have := HP.out; rw [prL, decide_eq_false hi0] at this; simpa using this)
        have HLT : Hid (pre.length + 1 + (prO x).length ≤ TT.length) := Lib.hid (by
          have h1 := congrArg List.length HPR.out
          simp only [List.length_append, List.length_cons, List.length_nil] at h1
          omega)
        have HA := Lib.hid (paddS HM4.out (Nat.le_trans HO.out.2 HB4.out.size) ⟨#[32]⟩ (by have : (⟨#[32]⟩ : ByteArray).size = 1 := rfl; have := HB.out.1; have := HLT.out; omega))
        clear hi0
        go_wp2_with (first
          | (go_at_call 50; refine HA.out.mono ?_; (rintro r w5 ⟨v5, rfl, hm5, hk5⟩); clear y0 y1 y2 y3 y4; have e5 := hk5.block wr.heap.size (by have := HS4.out; omega) HOF.out; have hn5 := e5.trans HN4.out; have y0 : w5.cell? ⟨wr.heap.size, 0, none⟩ = some (.int .i64 k9) := cell_of_row _ _ 0 _ _ (0, 0) hn5; have y1 : w5.cell? ⟨wr.heap.size, 1, none⟩ = some (.int .i64 n9) := cell_of_row _ _ 1 _ _ (0, 0) hn5; have y2 : w5.cell? ⟨wr.heap.size, 2, none⟩ = some (.slice A29 m29 c29) := cell_of_row _ _ 2 _ _ (0, 0) hn5; have y3 : w5.cell? ⟨wr.heap.size, 3, none⟩ = some (.slice A39 m39 c39) := cell_of_row _ _ 3 _ _ (0, 0) hn5; have y4 : w5.cell? ⟨wr.heap.size, 4, none⟩ = some (.slice A49 m49 c49) := cell_of_row _ _ 4 _ _ (0, 0) hn5; have HB5 := Lib.hid (HB4.out.trans (hk5.below (Nat.le_trans HO.out.2 HB4.out.size) HM4.out.owned)); have HM5 := Lib.hid hm5; clear hm5 hk5 e5 hn5; have HCV := Lib.hid (HIH.out x (by have := HFF.out.2; omega) S w5 base _ _ _ _ _ _ _ _ (ObR.keep (fun b hb => HB5.out.block b (HS.out b hb)) (fun _ h => h) x HXR.out) HS.out (Nat.le_trans HO.out.2 HB5.out.size) (HT.out.below HB5.out) HM5.out HFF.out.1.2.1 HFF.out.1.1 (by
              have h1 := HLT.out
              have := HB.out.1
              show p + 1 + pre.length + 1 + (prO x).length ≤ 10000000000000
              omega)))
          | (go_at_call 46; refine HCV.out.mono ?_; (rintro r w6 ⟨v6, rfl, hm6, hb6⟩); have HM6 := Lib.hid hm6; have HB6 := Lib.hid (HB5.out.trans hb6); clear hm6 hb6 y0 y1 y2 y3 y4))
        go_roundw
        case rel => exact ⟨i + 1, xs, pre ++ [32] ++ prO x, HIL.out, by go_num, Lib.hid (by
          have h := HM6.out
          rw [show strZ ⟨#[32]⟩ = [32] from rfl] at h
          have e1 : p + 1 + (pre ++ [32] ++ prO x).length = p + 1 + pre.length + (⟨#[32]⟩ : ByteArray).size + (prO x).length := by
            simp only [List.length_append, List.length_cons, List.length_nil]
            show _ = p + 1 + pre.length + 1 + (prO x).length
            omega
          have e2 : P ++ [91] ++ (pre ++ [32] ++ prO x) = P ++ [91] ++ pre ++ [32] ++ prO x := by simp
          rw [e1, e2]
          exact h), HB6, HXS, Lib.hid (by rw [decide_eq_false (by omega : ¬ i + 1 = 0), ← HPR.out]; simp), Lib.hid ⟨HFF.out.1.2.2, by have := HFF.out.2; omega⟩⟩
        case measure => simp [intOf]; omega
end

section
open Go.RowKit
set_option linter.unusedVariables false
set_option maxRecDepth 100000
set_option maxHeartbeats 4000000 in
theorem pentries {N : Nat} (IH : ValC N) (l : Ens) (hl : l.sz ≤ N) {S : Nat → Prop} {w : World} {base p : Nat} {v : Value} {P : List Int} {A : Option Addr} {c : Nat} (hlc : l.len ≤ c ∧ c ≤ 9223372036854775807) (hl2 : 0 < l.len → ∃ g o, A = some ⟨g, o, none⟩ ∧ S g ∧ EnsR w S l g o) (hS : ∀ g, S g → g < base) (hbase : base ≤ w.heap.size) (ht : TabB base w) (hm : Mine w base v p P) (hf : fnE l) (hb : p + (prE l).length + 4 ≤ 10000000000000) :
    Calls Tryz.prog 91 #[v, .slice A l.len c] w (GrP w base p P ([60, 60] ++ prE l ++ [62, 62])) := by
  have kc := fun (w : World) (C : Array Value) (n c : Nat) => Lib.run_convert_bytes_const (P := Tryz.prog) w 23 5 C n c Tryz.underlying23 Tryz.underlying5
  have HA0 := Lib.hid (paddS hm hbase ⟨#[60, 60]⟩ (by have : (⟨#[60, 60]⟩ : ByteArray).size = 2 := rfl; omega))
  have HIH := Lib.hid IH
  have HS := Lib.hid hS
  have HT := Lib.hid ht
  have HO := Lib.hid (And.intro hm.owned hbase)
  have HR0 : Hid (0 < l.len → ∃ g o, A = some ⟨g, o, none⟩ ∧ S g ∧ EnsR w S l g (o + 0 * 6)) := Lib.hid (fun h => by simpa using hl2 h)
  have HF0 := Lib.hid (And.intro hf hl)
  obtain ⟨LL, hLL⟩ : ∃ LL, l.len = LL := ⟨_, rfl⟩
  obtain ⟨TT, hTT⟩ : ∃ TT, prE l = TT := ⟨_, rfl⟩
  have hmx : LL ≤ 9223372036854775807 := by omega
  rw [hTT] at hb ⊢
  rw [hLL] at hlc ⊢
  have HTT := Lib.hid hTT
  have HB := Lib.hid (And.intro hb hLL)
  obtain ⟨A0, c0, hv0, _⟩ := hm.byt
  subst hv0
  clear IH hl hlc hl2 hS hbase ht hm hf hb hLL hTT
  go_enter Tryz.func91, Tryz.ntmps91
  go_wp2_with (go_at_call 50; refine HA0.out.mono ?_; (rintro r w1 ⟨v1, rfl, hm1, hk1⟩); have HM1 : Hid (Mine w1 base v1 (p + 2 + ([] : List Int).length) (P ++ [60, 60] ++ [])) := Lib.hid (by have h := hm1; rw [show strZ ⟨#[60, 60]⟩ = [60, 60] from rfl, show (⟨#[60, 60]⟩ : ByteArray).size = 2 from rfl] at h; simpa using h); have HB1 := Lib.hid (hk1.below HO.out.2 HO.out.1); clear hm1 hk1)
  go_loopw [0, 6, 12] (fun s0 s6 s12 wr => ∃ (i : Nat) (r : Ens) (pre : List Int), i + r.len = LL ∧ s12 = .int .i64 i ∧ Hid (Mine wr base s0 (p + 2 + pre.length) (P ++ [60, 60] ++ pre)) ∧ Hid (Below base w wr) ∧ Hid (0 < r.len → ∃ g o, A = some ⟨g, o, none⟩ ∧ S g ∧ EnsR w S r g (o + i * 6)) ∧ Hid (pre ++ prE r = TT) ∧ Hid (fnE r ∧ r.sz ≤ N)) (fun _ _ s12 _ => LL - (intOf s12).toNat)
  case atStart => exact ⟨0, l, [], by rw [Nat.zero_add]; exact HB.out.2, rfl, HM1, HB1, HR0, Lib.hid HTT.out, HF0⟩
  case round =>
    obtain ⟨i, r, pre, hil, rfl, HM, HBE, HR, HP, HF⟩ := hrel
    obtain ⟨A2, c2, hv2, _⟩ := HM.out.byt
    subst hv2
    cases r with
    | nil =>
      have hil2 : i = LL := by simpa [Ens.len] using hil
      subst hil2
      have HLEN : Hid (pre = TT) := Lib.hid (by have := HP.out; rw [prE, List.append_nil] at this; exact this)
      have HA := Lib.hid (paddS HM.out (Nat.le_trans HO.out.2 HBE.out.size) ⟨#[62, 62]⟩ (by have : (⟨#[62, 62]⟩ : ByteArray).size = 2 := rfl; have := HB.out.1; have := HLEN.out; subst this; omega))
      clear hil
      go_wp2_with (go_at_call 50; refine HA.out.mono ?_; (rintro r w5 ⟨v5, rfl, hm5, hk5⟩); have HM5 := Lib.hid hm5; have HK5 := Lib.hid hk5; clear hm5 hk5)
      go_ret
      refine ⟨_, rfl, ?_, HBE.out.trans (HK5.out.below (Nat.le_trans HO.out.2 HBE.out.size) HM.out.owned)⟩
      have h := HM5.out
      rw [HLEN.out] at h
      have e : (P ++ [60, 60] ++ TT ++ strZ ⟨#[62, 62]⟩) = P ++ ([60, 60] ++ TT ++ [62, 62]) := by rw [show strZ ⟨#[62, 62]⟩ = [62, 62] from rfl]; simp
      rw [e] at h
      have e2 : p + 2 + TT.length + (⟨#[62, 62]⟩ : ByteArray).size = p + ([60, 60] ++ TT ++ [62, 62]).length := by
        simp only [List.length_append, List.length_cons, List.length_nil]
        show p + 2 + TT.length + 2 = _
        omega
      rw [e2] at h
      exact h
    | cons s x xs =>
      rw [Ens.len] at hil
      obtain ⟨g, o, rfl, hg, hob⟩ := HR.out (by simp [Ens.len])
      unfold EnsR at hob
      obtain ⟨⟨d0, d1, d2, d3, d4, qs, q0, q1, q2, q3, q4, hxr⟩, hxs⟩ := hob
      obtain ⟨k9, n9, A29, m29, c29, A39, m39, c39, A49, m49, c49, rfl, rfl, rfl, rfl, rfl⟩ := hxr.form
      have e := fun j => World.cell?_of_block (a := ⟨g, j, none⟩) (HBE.out.block g (HS.out g hg))
      have x0 := (e _).trans qs
      have x1 := (e _).trans q0
      have x2 := (e _).trans q1
      have x3 := (e _).trans q2
      have x4 := (e _).trans q3
      have x5 := (e _).trans q4
      have hff := HF.out
      unfold fnE at hff
      rw [Ens.sz] at hff
      have hb4 := (Below.refl wr.heap.size wr).alloc (Nat.le_refl _) (.cells #[.string s, .int .i64 k9, .int .i64 n9, .slice A29 m29 c29, .slice A39 m39 c39, .slice A49 m49 c49] 91)
      have hn4 := heap_alloc_new wr (.cells #[.string s, .int .i64 k9, .int .i64 n9, .slice A29 m29 c29, .slice A39 m39 c39, .slice A49 m49 c49] 91)
      obtain ⟨W4, hW4⟩ : ∃ W4, wr.alloc (.cells #[.string s, .int .i64 k9, .int .i64 n9, .slice A29 m29 c29, .slice A39 m39 c39, .slice A49 m49 c49] 91) = W4 := ⟨_, rfl⟩
      have hs4 : W4.heap.size = wr.heap.size + 1 := by rw [← hW4]; simp
      rw [hW4] at hb4 hn4
      have HB4 := Lib.hid (HBE.out.trans (hb4.mono (Nat.le_trans HO.out.2 HBE.out.size)))
      have HM4 := Lib.hid (HM.out.kept hb4)
      have HN4 := Lib.hid hn4
      have HW4 := Lib.hid hW4
      have HOF : Hid ((Value.slice A2 (p + 2 + pre.length) c2).ownBlock ≠ some wr.heap.size) := Lib.hid (fun e => by have := HM.out.lt _ e; omega)
      have HS4 := Lib.hid hs4
      have HXR := Lib.hid hxr
      have HXS : Hid (0 < xs.len → ∃ g' o', some (Addr.mk g o none) = some ⟨g', o', none⟩ ∧ S g' ∧ EnsR w S xs g' (o' + (i + 1) * 6)) := Lib.hid (fun _ => ⟨g, o, rfl, hg, by rw [show o + (i + 1) * 6 = o + i * 6 + 6 by omega]; exact hxs⟩)
      have HFF := Lib.hid hff
      have hi2 : (i : Int) < LL := by omega
      have HIL : Hid (i + 1 + xs.len = LL) := Lib.hid (by omega)
      have HNM := Lib.hid (pNm s W4 (by have := hff.1.1; omega))
      have HPR : Hid (pre ++ ((47 :: nmS (strZ s)) ++ ([32] ++ (prO x ++ prE xs))) = TT) := Lib.hid (by have := HP.out; rw [prE] at this; rw [← this]; simp)
      have HLT : Hid (pre.length + ((47 :: nmS (strZ s)).length + 1 + (prO x).length) ≤ TT.length) := Lib.hid (by
        have h1 := congrArg List.length HPR.out
        simp only [List.length_append, List.length_cons, List.length_nil] at h1 ⊢
        omega)
      obtain ⟨NM, hNM⟩ : ∃ NM, 47 :: nmS (strZ s) = NM := ⟨_, rfl⟩
      rw [hNM] at HNM HPR HLT
      clear hb4 hn4 hW4 hs4 hxr hxs hff qs q0 q1 q2 q3 q4 e hg hil hNM
      go_upto_region 5 with fail
      rw [HW4.out]
      clear x0 x1 x2 x3 x4 x5
      have y0 : W4.cell? ⟨wr.heap.size, 0, none⟩ = some (.string s) := cell_of_row _ _ 0 _ _ (0, 0) HN4.out
      go_wp2_with (first
        | (go_at_call 15; refine HNM.out.mono ?_; (rintro r w5 ⟨v5, rfl, hm5, hb5⟩); obtain ⟨A5, c5, rfl, hy5⟩ := hm5.byt; have HY5 := Lib.hid hy5; have HW5 := Lib.hid hb5; have HO5 : Hid (∀ b o, 0 < NM.length → A5 = some ⟨b, o, none⟩ → W4.heap.size ≤ b) := Lib.hid (fun b o h0 e => by subst e; exact hm5.owned b rfl); clear hy5 hm5 hb5 y0; have HB32 := Lib.hid ((Below.refl w5.heap.size w5).alloc (Nat.le_refl _) (.cells #[.int .u8 32] 5 (1, 2))); have HM5 := Lib.hid (HM4.out.kept (HW5.out.trans (HB32.out.mono HW5.out.size))); have HB5 := Lib.hid (HB4.out.trans ((HW5.out.trans (HB32.out.mono HW5.out.size)).mono (Nat.le_trans HO.out.2 HB4.out.size))); have HAD := Lib.hid (paddN (s := false) (.inl HM5.out) (Nat.le_trans HO.out.2 HB5.out.size) (GA := w5.heap.size + 1) (by simp) [⟨A5, NM.length, c5, NM⟩, ⟨some ⟨w5.heap.size, 0, none⟩, 1, 1, [32]⟩] (fun q hq => by
            rcases List.mem_cons.1 hq with rfl | hq
            · exact ⟨(HY5.out.below HB32.out (Nat.le_refl _)).more HB32.out.size, fun h0 b o e e2 => by have h5 := HO5.out b o h0 e; have := HM4.out.lt _ e2; omega⟩
            · rw [List.mem_singleton] at hq
              subst hq
              exact ⟨(byt_lit w5 (1, 2) [32] (by decide) 1 rfl #[.int .u8 32] rfl).more (by simp), fun _ b o e e2 => by injection e with e; injection e with e _; have := HM4.out.lt _ e2; have := HW5.out.size; omega⟩) (by rw [flat2]; simp only [List.length_append, List.length_cons, List.length_nil]; have := HLT.out; have := HB.out.1; omega) (by simp)))
        | (go_at_call 53; refine HAD.out.mono ?_; (rintro r w6 ⟨v6, rfl, hm6, hk6⟩); have e6 := (hk6.block wr.heap.size (by have := HS4.out; have := HW5.out.size; have := HB32.out.size; omega) HOF.out).trans ((HB32.out.block wr.heap.size (by have := HS4.out; have := HW5.out.size; omega)).trans (HW5.out.block wr.heap.size (by have := HS4.out; omega))); have hn5 := e6.trans HN4.out; have y1 : w6.cell? ⟨wr.heap.size, 1, none⟩ = some (.int .i64 k9) := cell_of_row _ _ 1 _ _ (0, 0) hn5; have y2 : w6.cell? ⟨wr.heap.size, 2, none⟩ = some (.int .i64 n9) := cell_of_row _ _ 2 _ _ (0, 0) hn5; have y3 : w6.cell? ⟨wr.heap.size, 3, none⟩ = some (.slice A29 m29 c29) := cell_of_row _ _ 3 _ _ (0, 0) hn5; have y4 : w6.cell? ⟨wr.heap.size, 4, none⟩ = some (.slice A39 m39 c39) := cell_of_row _ _ 4 _ _ (0, 0) hn5; have y5 : w6.cell? ⟨wr.heap.size, 5, none⟩ = some (.slice A49 m49 c49) := cell_of_row _ _ 5 _ _ (0, 0) hn5; have HB6 := Lib.hid (HB5.out.trans (hk6.below (Nat.le_trans HO.out.2 HB5.out.size) HM5.out.owned)); have HM6 := Lib.hid hm6.mine; clear hm6 hk6 e6 hn5; have HCV := Lib.hid (HIH.out x (by have := HFF.out.2; omega) S w6 base _ _ _ _ _ _ _ _ (ObR.keep (fun b hb => HB6.out.block b (HS.out b hb)) (fun _ h => h) x HXR.out) HS.out (Nat.le_trans HO.out.2 HB6.out.size) (HT.out.below HB6.out) HM6.out HFF.out.1.2.2.1 HFF.out.1.2.1 (by
              have h1 := HLT.out
              have := HB.out.1
              rw [flat2]
              simp only [List.length_append, List.length_cons, List.length_nil]
              omega)))
        | (go_at_call 46; refine HCV.out.mono ?_; (rintro r w7 ⟨v7, rfl, hm7, hb7⟩); have HM7 := Lib.hid hm7; have HB7 := Lib.hid (HB6.out.trans hb7); clear hm7 hb7 y1 y2 y3 y4 y5))
      go_roundw
      case rel => exact ⟨i + 1, xs, pre ++ NM ++ [32] ++ prO x, HIL.out, by go_num, Lib.hid (by
        have h := HM7.out
        rw [flat2] at h
        dsimp only at h
        have e1 : p + 2 + (pre ++ NM ++ [32] ++ prO x).length = p + 2 + pre.length + (NM ++ [32]).length + (prO x).length := by
          simp only [List.length_append, List.length_cons, List.length_nil]
          omega
        have e2 : P ++ [60, 60] ++ (pre ++ NM ++ [32] ++ prO x) = P ++ [60, 60] ++ pre ++ (NM ++ [32]) ++ prO x := by simp
        rw [e1, e2]
        exact h), HB7, HXS, Lib.hid (by rw [← HPR.out]; simp), Lib.hid ⟨HFF.out.1.2.2.2, by have := HFF.out.2; omega⟩⟩
      case measure => simp [intOf]; omega
end

section
open Go.RowKit
set_option linter.unusedVariables false
set_option maxRecDepth 100000
theorem bytS_byt {w : World} {S : Nat → Prop} {A : Option Addr} {n c B : Nat} {zs : List Int} (h : BytS w S A n c zs) (hS : ∀ g, S g → g < B) : Byt w B A n c zs :=
  ⟨h.1, h.2.1.1, h.2.2.1, fun h0 => by
    obtain ⟨g, o, e, hg, hc⟩ := h.2.2.2 h0
    exact ⟨g, o, e, hS g hg, hc⟩⟩
theorem conv_s13 {W : World} {B n c : Nat} {A : Option Addr} {zs : List Int} (hb : Byt W B A n c zs) (s : ByteArray) (hs : strOfNums zs = s) : (convert 23 9 (.slice A n c)).run Tryz.prog W = .ok (.string s) W := by
  subst hs
  exact hb.inn.convert (P := Tryz.prog) hb.len c 23 5 9 Tryz.underlying23 Tryz.underlying5 Tryz.underlying9
theorem strZ_of13 (zs : List Int) (h : ∀ z ∈ zs, 0 ≤ z ∧ z < 256) : strZ (strOfNums zs) = zs := by
  unfold strZ
  rw [strOfNums_data, List.map_map]
  refine (List.map_congr_left fun z hz => ?_).trans (List.map_id _)
  have := h z hz
  simp
  omega
set_option maxHeartbeats 4000000 in
theorem pval_null {w : World} {S : Nat → Prop} {base p : Nat} {v : Value} {P : List Int} {k : Int} (hk : ¬ (k = 1 ∨ k = 2 ∨ k = 3 ∨ k = 4 ∨ k = 5 ∨ k = 9 ∨ k = 6 ∨ k = 7)) (n : Int) (A2 A3 A4 : Option Addr) (m2 d2 m3 d3 m4 d4 : Nat) (hS : ∀ g, S g → g < base) (hbase : base ≤ w.heap.size) (ht : TabB base w) (hm : Mine w base v p P) (hn : -9223372036854775808 ≤ n ∧ n ≤ 9223372036854775807) (hp : p ≤ 10000000000000) :
    Calls Tryz.prog 46 #[v, .agg #[.int .i64 k, .int .i64 n, .slice A2 m2 d2, .slice A3 m3 d3, .slice A4 m4 d4]] w (GrP w base p P ([110, 117, 108, 108])) := by
  have hb1 := (Below.refl w.heap.size w).alloc (Nat.le_refl _) (.cells #[.int .i64 k, .int .i64 n, .slice A2 m2 d2, .slice A3 m3 d3, .slice A4 m4 d4] 30)
  have hnew := heap_alloc_new w (.cells #[.int .i64 k, .int .i64 n, .slice A2 m2 d2, .slice A3 m3 d3, .slice A4 m4 d4] 30)
  obtain ⟨W1, hW1⟩ : ∃ W1, w.alloc (.cells #[.int .i64 k, .int .i64 n, .slice A2 m2 d2, .slice A3 m3 d3, .slice A4 m4 d4] 30) = W1 := ⟨_, rfl⟩
  rw [hW1] at hb1 hnew
  have y0 : W1.cell? ⟨w.heap.size, 0, none⟩ = some (.int .i64 k) := cell_of_row _ _ 0 _ _ (0, 0) hnew
  have y1 : W1.cell? ⟨w.heap.size, 1, none⟩ = some (.int .i64 n) := cell_of_row _ _ 1 _ _ (0, 0) hnew
  have y2 : W1.cell? ⟨w.heap.size, 2, none⟩ = some (.slice A2 m2 d2) := cell_of_row _ _ 2 _ _ (0, 0) hnew
  have y3 : W1.cell? ⟨w.heap.size, 3, none⟩ = some (.slice A3 m3 d3) := cell_of_row _ _ 3 _ _ (0, 0) hnew
  have y4 : W1.cell? ⟨w.heap.size, 4, none⟩ = some (.slice A4 m4 d4) := cell_of_row _ _ 4 _ _ (0, 0) hnew
  have hmk := hm.kept hb1
  have HB0 := Lib.hid (hb1.mono hbase)
  have hbase1 : base ≤ W1.heap.size := Nat.le_trans hbase hb1.size
  have ht1 := ht.below HB0.out
  have HO := Lib.hid (And.intro hm.owned hbase1)
  have HA := Lib.hid (paddS hmk hbase1 ⟨#[110, 117, 108, 108]⟩ (by have : (⟨#[110, 117, 108, 108]⟩ : ByteArray).size = 4 := rfl; omega))
  have h1 : (k == 1) = false := beq_eq_false_iff_ne.2 (by omega)
  have h2 : (k == 2) = false := beq_eq_false_iff_ne.2 (by omega)
  have h3 : (k == 3) = false := beq_eq_false_iff_ne.2 (by omega)
  have h4 : (k == 4) = false := beq_eq_false_iff_ne.2 (by omega)
  have h5 : (k == 5) = false := beq_eq_false_iff_ne.2 (by omega)
  have h9 : (k == 9) = false := beq_eq_false_iff_ne.2 (by omega)
  have h6 : (k == 6) = false := beq_eq_false_iff_ne.2 (by omega)
  have h7 : (k == 7) = false := beq_eq_false_iff_ne.2 (by omega)
  obtain ⟨A0, c0, hv0, _⟩ := hm.byt
  subst hv0
  clear hm hmk hb1 hnew hbase hbase1 ht ht1 hS hn hk
  go_enter Tryz.func46, Tryz.ntmps46
  go_wp2_with (first
    | (go_at_call 50; refine (HA.out).mono ?_; (rintro r w6 ⟨v6, rfl, hm6, hk6⟩); have HM6 := Lib.hid hm6; have HB6 := Lib.hid (hk6.below HO.out.2 HO.out.1); clear hm6 hk6))
  go_ret
  exact ⟨_, rfl, HM6.out, HB0.out.trans HB6.out⟩
set_option maxHeartbeats 4000000 in
theorem pval_bool {w : World} {S : Nat → Prop} {base p : Nat} {v : Value} {P : List Int}  (n : Int) (A2 A3 A4 : Option Addr) (m2 d2 m3 d3 m4 d4 : Nat) (hS : ∀ g, S g → g < base) (hbase : base ≤ w.heap.size) (ht : TabB base w) (hm : Mine w base v p P) (hn : -9223372036854775808 ≤ n ∧ n ≤ 9223372036854775807) (hp : p ≤ 10000000000000) :
    Calls Tryz.prog 46 #[v, .agg #[.int .i64 1, .int .i64 n, .slice A2 m2 d2, .slice A3 m3 d3, .slice A4 m4 d4]] w (GrP w base p P (if n = 1 then [116, 114, 117, 101] else [102, 97, 108, 115, 101])) := by
  have hb1 := (Below.refl w.heap.size w).alloc (Nat.le_refl _) (.cells #[.int .i64 1, .int .i64 n, .slice A2 m2 d2, .slice A3 m3 d3, .slice A4 m4 d4] 30)
  have hnew := heap_alloc_new w (.cells #[.int .i64 1, .int .i64 n, .slice A2 m2 d2, .slice A3 m3 d3, .slice A4 m4 d4] 30)
  obtain ⟨W1, hW1⟩ : ∃ W1, w.alloc (.cells #[.int .i64 1, .int .i64 n, .slice A2 m2 d2, .slice A3 m3 d3, .slice A4 m4 d4] 30) = W1 := ⟨_, rfl⟩
  rw [hW1] at hb1 hnew
  have y0 : W1.cell? ⟨w.heap.size, 0, none⟩ = some (.int .i64 1) := cell_of_row _ _ 0 _ _ (0, 0) hnew
  have y1 : W1.cell? ⟨w.heap.size, 1, none⟩ = some (.int .i64 n) := cell_of_row _ _ 1 _ _ (0, 0) hnew
  have y2 : W1.cell? ⟨w.heap.size, 2, none⟩ = some (.slice A2 m2 d2) := cell_of_row _ _ 2 _ _ (0, 0) hnew
  have y3 : W1.cell? ⟨w.heap.size, 3, none⟩ = some (.slice A3 m3 d3) := cell_of_row _ _ 3 _ _ (0, 0) hnew
  have y4 : W1.cell? ⟨w.heap.size, 4, none⟩ = some (.slice A4 m4 d4) := cell_of_row _ _ 4 _ _ (0, 0) hnew
  have hmk := hm.kept hb1
  have HB0 := Lib.hid (hb1.mono hbase)
  have hbase1 : base ≤ W1.heap.size := Nat.le_trans hbase hb1.size
  have ht1 := ht.below HB0.out
  have HO := Lib.hid (And.intro hm.owned hbase1)
  have HTR := Lib.hid (fun W => truC n W)
  obtain ⟨T, hT⟩ : ∃ T : ByteArray, (if n = 1 then ⟨#[116, 114, 117, 101]⟩ else ⟨#[102, 97, 108, 115, 101]⟩) = T := ⟨_, rfl⟩
  rw [hT] at HTR
  have hz : strZ T = if n = 1 then [116, 114, 117, 101] else [102, 97, 108, 115, 101] := by rw [← hT]; split <;> rfl
  have hsz : T.size = (strZ T).length := (strZ_len T).symm
  rw [← hz]
  have hle : T.size ≤ 5 := by rw [hsz, hz]; split <;> simp
  have HA := Lib.hid (paddS hmk hbase1 T (by omega))
  rw [hsz] at HA
  obtain ⟨A0, c0, hv0, _⟩ := hm.byt
  subst hv0
  clear hm hmk hb1 hnew hbase hbase1 ht ht1 hS hn hT hz hsz hle
  go_enter Tryz.func46, Tryz.ntmps46
  go_wp2_with (first
    | (go_at_call 89; refine (HTR.out _).mono ?_; (rintro r w5 ⟨rfl, rfl⟩); skip)
    | (go_at_call 50; refine (HA.out).mono ?_; (rintro r w6 ⟨v6, rfl, hm6, hk6⟩); have HM6 := Lib.hid hm6; have HB6 := Lib.hid (hk6.below HO.out.2 HO.out.1); clear hm6 hk6))
  go_ret
  exact ⟨_, rfl, HM6.out, HB0.out.trans HB6.out⟩
set_option maxHeartbeats 4000000 in
theorem pval_int {w : World} {S : Nat → Prop} {base p : Nat} {v : Value} {P : List Int}  (n : Int) (A2 A3 A4 : Option Addr) (m2 d2 m3 d3 m4 d4 : Nat) (hS : ∀ g, S g → g < base) (hbase : base ≤ w.heap.size) (ht : TabB base w) (hm : Mine w base v p P) (hn : -9223372036854775808 ≤ n ∧ n ≤ 9223372036854775807) (hp : p ≤ 10000000000000) :
    Calls Tryz.prog 46 #[v, .agg #[.int .i64 2, .int .i64 n, .slice A2 m2 d2, .slice A3 m3 d3, .slice A4 m4 d4]] w (GrP w base p P (nuZ n true)) := by
  have hb1 := (Below.refl w.heap.size w).alloc (Nat.le_refl _) (.cells #[.int .i64 2, .int .i64 n, .slice A2 m2 d2, .slice A3 m3 d3, .slice A4 m4 d4] 30)
  have hnew := heap_alloc_new w (.cells #[.int .i64 2, .int .i64 n, .slice A2 m2 d2, .slice A3 m3 d3, .slice A4 m4 d4] 30)
  obtain ⟨W1, hW1⟩ : ∃ W1, w.alloc (.cells #[.int .i64 2, .int .i64 n, .slice A2 m2 d2, .slice A3 m3 d3, .slice A4 m4 d4] 30) = W1 := ⟨_, rfl⟩
  rw [hW1] at hb1 hnew
  have y0 : W1.cell? ⟨w.heap.size, 0, none⟩ = some (.int .i64 2) := cell_of_row _ _ 0 _ _ (0, 0) hnew
  have y1 : W1.cell? ⟨w.heap.size, 1, none⟩ = some (.int .i64 n) := cell_of_row _ _ 1 _ _ (0, 0) hnew
  have y2 : W1.cell? ⟨w.heap.size, 2, none⟩ = some (.slice A2 m2 d2) := cell_of_row _ _ 2 _ _ (0, 0) hnew
  have y3 : W1.cell? ⟨w.heap.size, 3, none⟩ = some (.slice A3 m3 d3) := cell_of_row _ _ 3 _ _ (0, 0) hnew
  have y4 : W1.cell? ⟨w.heap.size, 4, none⟩ = some (.slice A4 m4 d4) := cell_of_row _ _ 4 _ _ (0, 0) hnew
  have hmk := hm.kept hb1
  have HB0 := Lib.hid (hb1.mono hbase)
  have hbase1 : base ≤ W1.heap.size := Nat.le_trans hbase hb1.size
  have ht1 := ht.below HB0.out
  have HO := Lib.hid (And.intro hm.owned hbase1)
  have HN := Lib.hid (pnum hmk hbase1 ht1 n true hn.1 hn.2 (by omega))
  obtain ⟨A0, c0, hv0, _⟩ := hm.byt
  subst hv0
  clear hm hmk hb1 hnew hbase hbase1 ht ht1 hS hn
  go_enter Tryz.func46, Tryz.ntmps46
  go_wp2_with (first
    | (go_at_call 49; refine (HN.out).mono ?_; (rintro r w6 ⟨v6, rfl, hm6, hb6⟩); have HM6 := Lib.hid hm6; have HB6 := Lib.hid hb6; clear hm6 hb6))
  go_ret
  exact ⟨_, rfl, HM6.out, HB0.out.trans HB6.out⟩
set_option maxHeartbeats 4000000 in
theorem pval_real {w : World} {S : Nat → Prop} {base p : Nat} {v : Value} {P : List Int}  (n : Int) (A2 A3 A4 : Option Addr) (m2 d2 m3 d3 m4 d4 : Nat) (hS : ∀ g, S g → g < base) (hbase : base ≤ w.heap.size) (ht : TabB base w) (hm : Mine w base v p P) (hn : -9223372036854775808 ≤ n ∧ n ≤ 9223372036854775807) (hp : p ≤ 10000000000000) :
    Calls Tryz.prog 46 #[v, .agg #[.int .i64 3, .int .i64 n, .slice A2 m2 d2, .slice A3 m3 d3, .slice A4 m4 d4]] w (GrP w base p P (nuZ n false)) := by
  have hb1 := (Below.refl w.heap.size w).alloc (Nat.le_refl _) (.cells #[.int .i64 3, .int .i64 n, .slice A2 m2 d2, .slice A3 m3 d3, .slice A4 m4 d4] 30)
  have hnew := heap_alloc_new w (.cells #[.int .i64 3, .int .i64 n, .slice A2 m2 d2, .slice A3 m3 d3, .slice A4 m4 d4] 30)
  obtain ⟨W1, hW1⟩ : ∃ W1, w.alloc (.cells #[.int .i64 3, .int .i64 n, .slice A2 m2 d2, .slice A3 m3 d3, .slice A4 m4 d4] 30) = W1 := ⟨_, rfl⟩
  rw [hW1] at hb1 hnew
  have y0 : W1.cell? ⟨w.heap.size, 0, none⟩ = some (.int .i64 3) := cell_of_row _ _ 0 _ _ (0, 0) hnew
  have y1 : W1.cell? ⟨w.heap.size, 1, none⟩ = some (.int .i64 n) := cell_of_row _ _ 1 _ _ (0, 0) hnew
  have y2 : W1.cell? ⟨w.heap.size, 2, none⟩ = some (.slice A2 m2 d2) := cell_of_row _ _ 2 _ _ (0, 0) hnew
  have y3 : W1.cell? ⟨w.heap.size, 3, none⟩ = some (.slice A3 m3 d3) := cell_of_row _ _ 3 _ _ (0, 0) hnew
  have y4 : W1.cell? ⟨w.heap.size, 4, none⟩ = some (.slice A4 m4 d4) := cell_of_row _ _ 4 _ _ (0, 0) hnew
  have hmk := hm.kept hb1
  have HB0 := Lib.hid (hb1.mono hbase)
  have hbase1 : base ≤ W1.heap.size := Nat.le_trans hbase hb1.size
  have ht1 := ht.below HB0.out
  have HO := Lib.hid (And.intro hm.owned hbase1)
  have HN := Lib.hid (pnum hmk hbase1 ht1 n false hn.1 hn.2 (by omega))
  obtain ⟨A0, c0, hv0, _⟩ := hm.byt
  subst hv0
  clear hm hmk hb1 hnew hbase hbase1 ht ht1 hS hn
  go_enter Tryz.func46, Tryz.ntmps46
  go_wp2_with (first
    | (go_at_call 49; refine (HN.out).mono ?_; (rintro r w6 ⟨v6, rfl, hm6, hb6⟩); have HM6 := Lib.hid hm6; have HB6 := Lib.hid hb6; clear hm6 hb6))
  go_ret
  exact ⟨_, rfl, HM6.out, HB0.out.trans HB6.out⟩
set_option maxHeartbeats 4000000 in
theorem pval_ref {w : World} {S : Nat → Prop} {base p : Nat} {v : Value} {P : List Int}  (n : Int) (A2 A3 A4 : Option Addr) (m2 d2 m3 d3 m4 d4 : Nat) (hS : ∀ g, S g → g < base) (hbase : base ≤ w.heap.size) (ht : TabB base w) (hm : Mine w base v p P) (hn : -9223372036854775808 ≤ n ∧ n ≤ 9223372036854775807) (hp : p ≤ 10000000000000) :
    Calls Tryz.prog 46 #[v, .agg #[.int .i64 9, .int .i64 n, .slice A2 m2 d2, .slice A3 m3 d3, .slice A4 m4 d4]] w (GrP w base p P (nuZ n true ++ [32, 48, 32, 82])) := by
  have hb1 := (Below.refl w.heap.size w).alloc (Nat.le_refl _) (.cells #[.int .i64 9, .int .i64 n, .slice A2 m2 d2, .slice A3 m3 d3, .slice A4 m4 d4] 30)
  have hnew := heap_alloc_new w (.cells #[.int .i64 9, .int .i64 n, .slice A2 m2 d2, .slice A3 m3 d3, .slice A4 m4 d4] 30)
  obtain ⟨W1, hW1⟩ : ∃ W1, w.alloc (.cells #[.int .i64 9, .int .i64 n, .slice A2 m2 d2, .slice A3 m3 d3, .slice A4 m4 d4] 30) = W1 := ⟨_, rfl⟩
  rw [hW1] at hb1 hnew
  have y0 : W1.cell? ⟨w.heap.size, 0, none⟩ = some (.int .i64 9) := cell_of_row _ _ 0 _ _ (0, 0) hnew
  have y1 : W1.cell? ⟨w.heap.size, 1, none⟩ = some (.int .i64 n) := cell_of_row _ _ 1 _ _ (0, 0) hnew
  have y2 : W1.cell? ⟨w.heap.size, 2, none⟩ = some (.slice A2 m2 d2) := cell_of_row _ _ 2 _ _ (0, 0) hnew
  have y3 : W1.cell? ⟨w.heap.size, 3, none⟩ = some (.slice A3 m3 d3) := cell_of_row _ _ 3 _ _ (0, 0) hnew
  have y4 : W1.cell? ⟨w.heap.size, 4, none⟩ = some (.slice A4 m4 d4) := cell_of_row _ _ 4 _ _ (0, 0) hnew
  have hmk := hm.kept hb1
  have HB0 := Lib.hid (hb1.mono hbase)
  have hbase1 : base ≤ W1.heap.size := Nat.le_trans hbase hb1.size
  have ht1 := ht.below HB0.out
  have HO := Lib.hid (And.intro hm.owned hbase1)
  have HN := Lib.hid (pnum hmk hbase1 ht1 n true hn.1 hn.2 (by omega))
  have HNL := Lib.hid (nuZ_len n true)
  obtain ⟨R, hR⟩ : ∃ R, nuZ n true = R := ⟨_, rfl⟩
  rw [hR] at HN HNL ⊢
  obtain ⟨A0, c0, hv0, _⟩ := hm.byt
  subst hv0
  clear hm hmk hb1 hnew hbase hbase1 ht ht1 hS hn hR
  go_enter Tryz.func46, Tryz.ntmps46
  go_wp2_with (first
    | (go_at_call 49; refine (HN.out).mono ?_; (rintro r w5 ⟨v5, rfl, hm5, hb5⟩); have HB5 := Lib.hid (HB0.out.trans hb5); have HA := Lib.hid (paddS hm5 (Nat.le_trans HO.out.2 hb5.size) ⟨#[32, 48, 32, 82]⟩ (by have : (⟨#[32, 48, 32, 82]⟩ : ByteArray).size = 4 := rfl; have := HNL.out; omega)); have HO5 := Lib.hid (And.intro hm5.owned hb5.size); clear hm5 hb5)
    | (go_at_call 50; refine (HA.out).mono ?_; (rintro r w6 ⟨v6, rfl, hm6, hk6⟩); have HM6 := Lib.hid hm6; have HB6 := Lib.hid (hk6.below (Nat.le_trans HO.out.2 HO5.out.2) HO5.out.1); clear hm6 hk6))
  go_ret
  refine ⟨_, rfl, ?_, HB5.out.trans HB6.out⟩
  have h := HM6.out
  rw [show strZ ⟨#[32, 48, 32, 82]⟩ = [32, 48, 32, 82] from rfl, List.append_assoc] at h
  rw [List.length_append, ← Nat.add_assoc]
  exact h
set_option maxHeartbeats 4000000 in
theorem pval_str {w : World} {S : Nat → Prop} {base p : Nat} {v : Value} {P : List Int}  (n : Int) (A2 A3 A4 : Option Addr) (m2 d2 m3 d3 m4 d4 : Nat) {b : List Int} (hb : BytS w S A2 m2 d2 b) (hlen : b.length ≤ 32767) (hS : ∀ g, S g → g < base) (hbase : base ≤ w.heap.size) (ht : TabB base w) (hm : Mine w base v p P) (hn : -9223372036854775808 ≤ n ∧ n ≤ 9223372036854775807) (hp : p ≤ 10000000000000) :
    Calls Tryz.prog 46 #[v, .agg #[.int .i64 4, .int .i64 n, .slice A2 m2 d2, .slice A3 m3 d3, .slice A4 m4 d4]] w (GrP w base p P (txS b)) := by
  have hb1 := (Below.refl w.heap.size w).alloc (Nat.le_refl _) (.cells #[.int .i64 4, .int .i64 n, .slice A2 m2 d2, .slice A3 m3 d3, .slice A4 m4 d4] 30)
  have hnew := heap_alloc_new w (.cells #[.int .i64 4, .int .i64 n, .slice A2 m2 d2, .slice A3 m3 d3, .slice A4 m4 d4] 30)
  obtain ⟨W1, hW1⟩ : ∃ W1, w.alloc (.cells #[.int .i64 4, .int .i64 n, .slice A2 m2 d2, .slice A3 m3 d3, .slice A4 m4 d4] 30) = W1 := ⟨_, rfl⟩
  rw [hW1] at hb1 hnew
  have y0 : W1.cell? ⟨w.heap.size, 0, none⟩ = some (.int .i64 4) := cell_of_row _ _ 0 _ _ (0, 0) hnew
  have y1 : W1.cell? ⟨w.heap.size, 1, none⟩ = some (.int .i64 n) := cell_of_row _ _ 1 _ _ (0, 0) hnew
  have y2 : W1.cell? ⟨w.heap.size, 2, none⟩ = some (.slice A2 m2 d2) := cell_of_row _ _ 2 _ _ (0, 0) hnew
  have y3 : W1.cell? ⟨w.heap.size, 3, none⟩ = some (.slice A3 m3 d3) := cell_of_row _ _ 3 _ _ (0, 0) hnew
  have y4 : W1.cell? ⟨w.heap.size, 4, none⟩ = some (.slice A4 m4 d4) := cell_of_row _ _ 4 _ _ (0, 0) hnew
  have hmk := hm.kept hb1
  have HB0 := Lib.hid (hb1.mono hbase)
  have hbase1 : base ≤ W1.heap.size := Nat.le_trans hbase hb1.size
  have ht1 := ht.below HB0.out
  have HO := Lib.hid (And.intro hm.owned hbase1)
  have hby1 : Byt W1 W1.heap.size A2 m2 d2 b := (bytS_byt (hb.keep (fun g hg => hb1.block g (Nat.lt_of_lt_of_le (hS g hg) hbase)) (fun _ h => h)) hS).more hbase1
  have hln := hb.1
  have HN := Lib.hid (pTx A2 m2 d2 b W1 hby1 (by omega))
  have hRl : (txS b).length ≤ 100000 := by have := txS_len b; omega
  obtain ⟨R, hR⟩ : ∃ R, txS b = R := ⟨_, rfl⟩
  rw [hR] at HN hRl ⊢
  have HMK := Lib.hid hmk
  have HRL := Lib.hid hRl
  obtain ⟨A0, c0, hv0, _⟩ := hm.byt
  subst hv0
  clear hm hmk hb1 hnew hbase hbase1 ht ht1 hS hn hR hby1 hb hlen hln hRl
  go_enter Tryz.func46, Tryz.ntmps46
  go_wp2_with (first
    | (go_at_call 16; refine (HN.out).mono ?_; (rintro r w5 ⟨v5, rfl, hm5, hb5⟩); obtain ⟨A5, c5, rfl, hy5⟩ := hm5.byt; have HB5 := Lib.hid hb5; have HO5 : Hid (∀ b o, 0 < R.length → A5 = some ⟨b, o, none⟩ → W1.heap.size ≤ b) := Lib.hid (fun b o h0 e => by subst e; exact hm5.owned b rfl); have HAD := Lib.hid (paddN (s := false) (.inl (HMK.out.kept hb5)) (Nat.le_trans HO.out.2 hb5.size) rfl [⟨A5, R.length, c5, R⟩] (fun q hq => by
        rw [List.mem_singleton] at hq
        subst hq
        exact ⟨hy5, fun h0 b o e e2 => by have h5 := HO5.out b o h0 e; have := HMK.out.lt _ e2; omega⟩) (by rw [flat1]; have := HRL.out; show p + R.length ≤ _; omega) (by simp)); clear hy5 hm5 hb5)
    | (go_at_call 53; refine (HAD.out).mono ?_; (rintro r w6 ⟨v6, rfl, hm6, hk6⟩); have HM6 := Lib.hid hm6.mine; have HB6 := Lib.hid (hk6.below (Nat.le_trans HO.out.2 HB5.out.size) (HMK.out.kept HB5.out).owned); clear hm6 hk6))
  go_ret
  refine ⟨_, rfl, ?_, HB0.out.trans ((HB5.out.mono HO.out.2).trans HB6.out)⟩
  have h := HM6.out
  rw [flat1] at h
  exact h
set_option maxHeartbeats 4000000 in
theorem pval_name {w : World} {S : Nat → Prop} {base p : Nat} {v : Value} {P : List Int}  (n : Int) (A2 A3 A4 : Option Addr) (m2 d2 m3 d3 m4 d4 : Nat) {b : List Int} (hb : BytS w S A2 m2 d2 b) (hlen : b.length ≤ 127) (hS : ∀ g, S g → g < base) (hbase : base ≤ w.heap.size) (ht : TabB base w) (hm : Mine w base v p P) (hn : -9223372036854775808 ≤ n ∧ n ≤ 9223372036854775807) (hp : p ≤ 10000000000000) :
    Calls Tryz.prog 46 #[v, .agg #[.int .i64 5, .int .i64 n, .slice A2 m2 d2, .slice A3 m3 d3, .slice A4 m4 d4]] w (GrP w base p P (47 :: nmS b)) := by
  have hb1 := (Below.refl w.heap.size w).alloc (Nat.le_refl _) (.cells #[.int .i64 5, .int .i64 n, .slice A2 m2 d2, .slice A3 m3 d3, .slice A4 m4 d4] 30)
  have hnew := heap_alloc_new w (.cells #[.int .i64 5, .int .i64 n, .slice A2 m2 d2, .slice A3 m3 d3, .slice A4 m4 d4] 30)
  obtain ⟨W1, hW1⟩ : ∃ W1, w.alloc (.cells #[.int .i64 5, .int .i64 n, .slice A2 m2 d2, .slice A3 m3 d3, .slice A4 m4 d4] 30) = W1 := ⟨_, rfl⟩
  rw [hW1] at hb1 hnew
  have y0 : W1.cell? ⟨w.heap.size, 0, none⟩ = some (.int .i64 5) := cell_of_row _ _ 0 _ _ (0, 0) hnew
  have y1 : W1.cell? ⟨w.heap.size, 1, none⟩ = some (.int .i64 n) := cell_of_row _ _ 1 _ _ (0, 0) hnew
  have y2 : W1.cell? ⟨w.heap.size, 2, none⟩ = some (.slice A2 m2 d2) := cell_of_row _ _ 2 _ _ (0, 0) hnew
  have y3 : W1.cell? ⟨w.heap.size, 3, none⟩ = some (.slice A3 m3 d3) := cell_of_row _ _ 3 _ _ (0, 0) hnew
  have y4 : W1.cell? ⟨w.heap.size, 4, none⟩ = some (.slice A4 m4 d4) := cell_of_row _ _ 4 _ _ (0, 0) hnew
  have hmk := hm.kept hb1
  have HB0 := Lib.hid (hb1.mono hbase)
  have hbase1 : base ≤ W1.heap.size := Nat.le_trans hbase hb1.size
  have ht1 := ht.below HB0.out
  have HO := Lib.hid (And.intro hm.owned hbase1)
  have hby1 : Byt W1 W1.heap.size A2 m2 d2 b := (bytS_byt (hb.keep (fun g hg => hb1.block g (Nat.lt_of_lt_of_le (hS g hg) hbase)) (fun _ h => h)) hS).more hbase1
  have hln := hb.1
  obtain ⟨s, hs⟩ : ∃ s, strOfNums b = s := ⟨_, rfl⟩
  have hcv := conv_s13 hby1 s hs
  have hsz : strZ s = b := by rw [← hs]; exact strZ_of13 b hb.2.2.1
  have HN := Lib.hid (pNm s W1 (by rw [← strZ_len, hsz]; omega))
  rw [hsz] at HN
  have hRl : (47 :: nmS b).length ≤ 100000 := by have := nmS_len13 b; rw [List.length_cons]; omega
  obtain ⟨R, hR⟩ : ∃ R, 47 :: nmS b = R := ⟨_, rfl⟩
  rw [hR] at HN hRl ⊢
  have HMK := Lib.hid hmk
  have HRL := Lib.hid hRl
  obtain ⟨A0, c0, hv0, _⟩ := hm.byt
  subst hv0
  clear hm hmk hb1 hnew hbase hbase1 ht ht1 hS hn hR hby1 hb hlen hln hs hsz hRl
  go_enter Tryz.func46, Tryz.ntmps46
  go_wp2_with (first
    | (go_at_call 15; refine (HN.out).mono ?_; (rintro r w5 ⟨v5, rfl, hm5, hb5⟩); obtain ⟨A5, c5, rfl, hy5⟩ := hm5.byt; have HB5 := Lib.hid hb5; have HO5 : Hid (∀ b o, 0 < R.length → A5 = some ⟨b, o, none⟩ → W1.heap.size ≤ b) := Lib.hid (fun b o h0 e => by subst e; exact hm5.owned b rfl); have HAD := Lib.hid (paddN (s := false) (.inl (HMK.out.kept hb5)) (Nat.le_trans HO.out.2 hb5.size) rfl [⟨A5, R.length, c5, R⟩] (fun q hq => by
        rw [List.mem_singleton] at hq
        subst hq
        exact ⟨hy5, fun h0 b o e e2 => by have h5 := HO5.out b o h0 e; have := HMK.out.lt _ e2; omega⟩) (by rw [flat1]; have := HRL.out; show p + R.length ≤ _; omega) (by simp)); clear hy5 hm5 hb5)
    | (go_at_call 53; refine (HAD.out).mono ?_; (rintro r w6 ⟨v6, rfl, hm6, hk6⟩); have HM6 := Lib.hid hm6.mine; have HB6 := Lib.hid (hk6.below (Nat.le_trans HO.out.2 HB5.out.size) (HMK.out.kept HB5.out).owned); clear hm6 hk6))
  go_ret
  refine ⟨_, rfl, ?_, HB0.out.trans ((HB5.out.mono HO.out.2).trans HB6.out)⟩
  have h := HM6.out
  rw [flat1] at h
  exact h
set_option maxHeartbeats 4000000 in
theorem pval_arr {w : World} {S : Nat → Prop} {base p : Nat} {v : Value} {P : List Int}  (n : Int) (A2 A3 A4 : Option Addr) (m2 d2 m3 d3 m4 d4 : Nat) {N : Nat} (IH : ValC N) (l : Obs) (hl : l.sz ≤ N) (hme : m3 = l.len) (hlc : l.len ≤ d3 ∧ d3 ≤ 9223372036854775807) (hl2 : 0 < l.len → ∃ g o, A3 = some ⟨g, o, none⟩ ∧ S g ∧ ObsR w S l g o) (hf : fnL l) (hb : p + (prL l true).length + 2 ≤ 10000000000000) (hS : ∀ g, S g → g < base) (hbase : base ≤ w.heap.size) (ht : TabB base w) (hm : Mine w base v p P) (hn : -9223372036854775808 ≤ n ∧ n ≤ 9223372036854775807) (hp : p ≤ 10000000000000) :
    Calls Tryz.prog 46 #[v, .agg #[.int .i64 6, .int .i64 n, .slice A2 m2 d2, .slice A3 m3 d3, .slice A4 m4 d4]] w (GrP w base p P ([91] ++ prL l true ++ [93])) := by
  have hb1 := (Below.refl w.heap.size w).alloc (Nat.le_refl _) (.cells #[.int .i64 6, .int .i64 n, .slice A2 m2 d2, .slice A3 m3 d3, .slice A4 m4 d4] 30)
  have hnew := heap_alloc_new w (.cells #[.int .i64 6, .int .i64 n, .slice A2 m2 d2, .slice A3 m3 d3, .slice A4 m4 d4] 30)
  obtain ⟨W1, hW1⟩ : ∃ W1, w.alloc (.cells #[.int .i64 6, .int .i64 n, .slice A2 m2 d2, .slice A3 m3 d3, .slice A4 m4 d4] 30) = W1 := ⟨_, rfl⟩
  rw [hW1] at hb1 hnew
  have y0 : W1.cell? ⟨w.heap.size, 0, none⟩ = some (.int .i64 6) := cell_of_row _ _ 0 _ _ (0, 0) hnew
  have y1 : W1.cell? ⟨w.heap.size, 1, none⟩ = some (.int .i64 n) := cell_of_row _ _ 1 _ _ (0, 0) hnew
  have y2 : W1.cell? ⟨w.heap.size, 2, none⟩ = some (.slice A2 m2 d2) := cell_of_row _ _ 2 _ _ (0, 0) hnew
  have y3 : W1.cell? ⟨w.heap.size, 3, none⟩ = some (.slice A3 m3 d3) := cell_of_row _ _ 3 _ _ (0, 0) hnew
  have y4 : W1.cell? ⟨w.heap.size, 4, none⟩ = some (.slice A4 m4 d4) := cell_of_row _ _ 4 _ _ (0, 0) hnew
  have hmk := hm.kept hb1
  have HB0 := Lib.hid (hb1.mono hbase)
  have hbase1 : base ≤ W1.heap.size := Nat.le_trans hbase hb1.size
  have ht1 := ht.below HB0.out
  have HO := Lib.hid (And.intro hm.owned hbase1)
  subst hme
  have HN := Lib.hid (pitems IH l hl hlc (w := W1) (fun h0 => by
    obtain ⟨g, o, e, hg, hx⟩ := hl2 h0
    exact ⟨g, o, e, hg, ObsR.keep (fun g hg => hb1.block g (Nat.lt_of_lt_of_le (hS g hg) hbase)) (fun _ h => h) l g o hg hg hx⟩) hS hbase1 ht1 hmk hf hb)
  obtain ⟨R, hR⟩ : ∃ R, [91] ++ prL l true ++ [93] = R := ⟨_, rfl⟩
  rw [hR] at HN ⊢
  obtain ⟨A0, c0, hv0, _⟩ := hm.byt
  subst hv0
  clear hm hmk hb1 hnew hbase hbase1 ht ht1 hS hn hR IH hl hlc hl2 hf hb
  go_enter Tryz.func46, Tryz.ntmps46
  go_wp2_with (first
    | (go_at_call 90; refine (HN.out).mono ?_; (rintro r w6 ⟨v6, rfl, hm6, hb6⟩); have HM6 := Lib.hid hm6; have HB6 := Lib.hid hb6; clear hm6 hb6))
  go_ret
  exact ⟨_, rfl, HM6.out, HB0.out.trans HB6.out⟩
set_option maxHeartbeats 4000000 in
theorem pval_dict {w : World} {S : Nat → Prop} {base p : Nat} {v : Value} {P : List Int}  (n : Int) (A2 A3 A4 : Option Addr) (m2 d2 m3 d3 m4 d4 : Nat) {N : Nat} (IH : ValC N) (l : Ens) (hl : l.sz ≤ N) (hme : m4 = l.len) (hlc : l.len ≤ d4 ∧ d4 ≤ 9223372036854775807) (hl2 : 0 < l.len → ∃ g o, A4 = some ⟨g, o, none⟩ ∧ S g ∧ EnsR w S l g o) (hf : fnE l) (hb : p + (prE l).length + 4 ≤ 10000000000000) (hS : ∀ g, S g → g < base) (hbase : base ≤ w.heap.size) (ht : TabB base w) (hm : Mine w base v p P) (hn : -9223372036854775808 ≤ n ∧ n ≤ 9223372036854775807) (hp : p ≤ 10000000000000) :
    Calls Tryz.prog 46 #[v, .agg #[.int .i64 7, .int .i64 n, .slice A2 m2 d2, .slice A3 m3 d3, .slice A4 m4 d4]] w (GrP w base p P ([60, 60] ++ prE l ++ [62, 62])) := by
  have hb1 := (Below.refl w.heap.size w).alloc (Nat.le_refl _) (.cells #[.int .i64 7, .int .i64 n, .slice A2 m2 d2, .slice A3 m3 d3, .slice A4 m4 d4] 30)
  have hnew := heap_alloc_new w (.cells #[.int .i64 7, .int .i64 n, .slice A2 m2 d2, .slice A3 m3 d3, .slice A4 m4 d4] 30)
  obtain ⟨W1, hW1⟩ : ∃ W1, w.alloc (.cells #[.int .i64 7, .int .i64 n, .slice A2 m2 d2, .slice A3 m3 d3, .slice A4 m4 d4] 30) = W1 := ⟨_, rfl⟩
  rw [hW1] at hb1 hnew
  have y0 : W1.cell? ⟨w.heap.size, 0, none⟩ = some (.int .i64 7) := cell_of_row _ _ 0 _ _ (0, 0) hnew
  have y1 : W1.cell? ⟨w.heap.size, 1, none⟩ = some (.int .i64 n) := cell_of_row _ _ 1 _ _ (0, 0) hnew
  have y2 : W1.cell? ⟨w.heap.size, 2, none⟩ = some (.slice A2 m2 d2) := cell_of_row _ _ 2 _ _ (0, 0) hnew
  have y3 : W1.cell? ⟨w.heap.size, 3, none⟩ = some (.slice A3 m3 d3) := cell_of_row _ _ 3 _ _ (0, 0) hnew
  have y4 : W1.cell? ⟨w.heap.size, 4, none⟩ = some (.slice A4 m4 d4) := cell_of_row _ _ 4 _ _ (0, 0) hnew
  have hmk := hm.kept hb1
  have HB0 := Lib.hid (hb1.mono hbase)
  have hbase1 : base ≤ W1.heap.size := Nat.le_trans hbase hb1.size
  have ht1 := ht.below HB0.out
  have HO := Lib.hid (And.intro hm.owned hbase1)
  subst hme
  have HN := Lib.hid (pentries IH l hl hlc (w := W1) (fun h0 => by
    obtain ⟨g, o, e, hg, hx⟩ := hl2 h0
    exact ⟨g, o, e, hg, EnsR.keep (fun g hg => hb1.block g (Nat.lt_of_lt_of_le (hS g hg) hbase)) (fun _ h => h) l g o hg hg hx⟩) hS hbase1 ht1 hmk hf hb)
  obtain ⟨R, hR⟩ : ∃ R, [60, 60] ++ prE l ++ [62, 62] = R := ⟨_, rfl⟩
  rw [hR] at HN ⊢
  obtain ⟨A0, c0, hv0, _⟩ := hm.byt
  subst hv0
  clear hm hmk hb1 hnew hbase hbase1 ht ht1 hS hn hR IH hl hlc hl2 hf hb
  go_enter Tryz.func46, Tryz.ntmps46
  go_wp2_with (first
    | (go_at_call 91; refine (HN.out).mono ?_; (rintro r w6 ⟨v6, rfl, hm6, hb6⟩); have HM6 := Lib.hid hm6; have HB6 := Lib.hid hb6; clear hm6 hb6))
  go_ret
  exact ⟨_, rfl, HM6.out, HB0.out.trans HB6.out⟩
theorem pvalC : ∀ N, ValC N
  | 0 => fun x hN => by
    obtain ⟨k, n, b, l, d⟩ := x
    rw [Ob.sz] at hN; omega
  | N + 1 => fun x hN S w base p v P c0 c1 c2 c3 c4 hx hS hbase ht hm hf h8 hb => by
    obtain ⟨k, n, b, l, d⟩ := x
    change k ≠ 8 at h8
    rw [Ob.sz] at hN
    unfold ObR at hx
    obtain ⟨rfl, rfl, hk, hn, ⟨A2, m2, d2, rfl, hB⟩, ⟨A3, d3, rfl, hlc, hl⟩, ⟨A4, d4, rfl, hdc, hd⟩⟩ := hx
    unfold fnO at hf
    obtain ⟨f5, f4, fl, fe⟩ := hf
    rw [prO] at hb ⊢
    have hp : p ≤ 10000000000000 := by omega
    by_cases k1 : k = 1
    · subst k1; rw [if_pos rfl]
      exact pval_bool n A2 A3 A4 m2 d2 _ d3 _ d4 hS hbase ht hm hn hp
    rw [if_neg k1] at hb ⊢
    by_cases k2 : k = 2
    · subst k2; rw [if_pos rfl]
      exact pval_int n A2 A3 A4 m2 d2 _ d3 _ d4 hS hbase ht hm hn hp
    rw [if_neg k2] at hb ⊢
    by_cases k3 : k = 3
    · subst k3; rw [if_pos rfl]
      exact pval_real n A2 A3 A4 m2 d2 _ d3 _ d4 hS hbase ht hm hn hp
    rw [if_neg k3] at hb ⊢
    by_cases k4 : k = 4
    · subst k4; rw [if_pos rfl]
      exact pval_str n A2 A3 A4 m2 d2 _ d3 _ d4 hB (f4 rfl) hS hbase ht hm hn hp
    rw [if_neg k4] at hb ⊢
    by_cases k5 : k = 5
    · subst k5; rw [if_pos rfl]
      exact pval_name n A2 A3 A4 m2 d2 _ d3 _ d4 hB (f5 rfl) hS hbase ht hm hn hp
    rw [if_neg k5] at hb ⊢
    by_cases k9 : k = 9
    · subst k9; rw [if_pos rfl]
      exact pval_ref n A2 A3 A4 m2 d2 _ d3 _ d4 hS hbase ht hm hn hp
    rw [if_neg k9] at hb ⊢
    by_cases k6 : k = 6
    · subst k6; rw [if_pos rfl] at hb ⊢
      exact pval_arr n A2 A3 A4 m2 d2 _ d3 _ d4 (pvalC N) l (by omega) rfl hlc hl fl (by simp only [List.length_append, List.length_cons, List.length_nil] at hb; omega) hS hbase ht hm hn hp
    rw [if_neg k6] at hb ⊢
    by_cases k7 : k = 7
    · subst k7; rw [if_pos (.inl rfl)] at hb ⊢
      exact pval_dict n A2 A3 A4 m2 d2 _ d3 _ d4 (pvalC N) d (by omega) rfl hdc hd fe (by simp only [List.length_append, List.length_cons, List.length_nil] at hb; omega) hS hbase ht hm hn hp
    rw [if_neg (by omega)]
    exact pval_null (by omega) n A2 A3 A4 m2 d2 _ d3 _ d4 hS hbase ht hm hn hp
end

section
open Go.RowKit
set_option linter.unusedVariables false
set_option maxRecDepth 100000
/-- Bytes in new memory. -/
def NwP (w : World) (R : List Int) (r : Ending) (w' : World) : Prop := ∃ A c, r = .returned (.slice A R.length c) ∧ Byt w' w'.heap.size A R.length c R ∧ Below w.heap.size w w'
def ShC (N : Nat) : Prop := ∀ (x : Ob), x.sz ≤ N → ∀ (S : Nat → Prop) (w : World) (c0 c1 c2 c3 c4 : Value), ObR w S x c0 c1 c2 c3 c4 → (∀ g, S g → g < w.heap.size) → fnO x → (prO x).length ≤ 10000000000000 →
  Calls Tryz.prog 57 #[.agg #[c0, c1, c2, c3, c4]] w (NwP w (prO x))
theorem nuZ_rng (n : Int) (whole : Bool) : ∀ z ∈ nuZ n whole, 0 ≤ z ∧ z < 256 := fun z hz => by
  unfold nuZ zsB at hz
  obtain ⟨b, _, rfl⟩ := List.mem_map.1 hz
  have := UInt8.toNat_lt b
  omega
theorem text_nums (n : Int) (whole : Bool) : strOfNums (nuZ n whole) = ⟨(textB n whole).toArray⟩ := by rw [← strZ_text, strOf_strZ13]
theorem strNums_app : ∀ a b : List Int, strOfNums (a ++ b) = strOfNums a ++ strOfNums b := strOfNums_app
set_option maxHeartbeats 4000000 in
theorem sh_null {w : World} {S : Nat → Prop} (n : Int) (A2 A3 A4 : Option Addr) (m2 d2 m3 d3 m4 d4 : Nat) {k : Int} (hk : ¬ (k = 1 ∨ k = 2 ∨ k = 3 ∨ k = 4 ∨ k = 5 ∨ k = 9 ∨ k = 6 ∨ k = 7 ∨ k = 8)) (hS : ∀ g, S g → g < w.heap.size) (hn : -9223372036854775808 ≤ n ∧ n ≤ 9223372036854775807) :
    Calls Tryz.prog 57 #[.agg #[.int .i64 k, .int .i64 n, .slice A2 m2 d2, .slice A3 m3 d3, .slice A4 m4 d4]] w (NwP w ([110, 117, 108, 108])) := by
  have hb1 := (Below.refl w.heap.size w).alloc (Nat.le_refl _) (.cells #[.int .i64 k, .int .i64 n, .slice A2 m2 d2, .slice A3 m3 d3, .slice A4 m4 d4] 30)
  have hnew := heap_alloc_new w (.cells #[.int .i64 k, .int .i64 n, .slice A2 m2 d2, .slice A3 m3 d3, .slice A4 m4 d4] 30)
  obtain ⟨W1, hW1⟩ : ∃ W1, w.alloc (.cells #[.int .i64 k, .int .i64 n, .slice A2 m2 d2, .slice A3 m3 d3, .slice A4 m4 d4] 30) = W1 := ⟨_, rfl⟩
  have hs1 : W1.heap.size = w.heap.size + 1 := by rw [← hW1]; simp
  rw [hW1] at hb1 hnew
  have y0 : W1.cell? ⟨w.heap.size, 0, none⟩ = some (.int .i64 k) := cell_of_row _ _ 0 _ _ (0, 0) hnew
  have y1 : W1.cell? ⟨w.heap.size, 1, none⟩ = some (.int .i64 n) := cell_of_row _ _ 1 _ _ (0, 0) hnew
  have y2 : W1.cell? ⟨w.heap.size, 2, none⟩ = some (.slice A2 m2 d2) := cell_of_row _ _ 2 _ _ (0, 0) hnew
  have y3 : W1.cell? ⟨w.heap.size, 3, none⟩ = some (.slice A3 m3 d3) := cell_of_row _ _ 3 _ _ (0, 0) hnew
  have y4 : W1.cell? ⟨w.heap.size, 4, none⟩ = some (.slice A4 m4 d4) := cell_of_row _ _ 4 _ _ (0, 0) hnew
  have HB0 := Lib.hid hb1
  have h1 : (k == 1) = false := beq_eq_false_iff_ne.2 (by omega)
  have h2 : (k == 2) = false := beq_eq_false_iff_ne.2 (by omega)
  have h3 : (k == 3) = false := beq_eq_false_iff_ne.2 (by omega)
  have h4 : (k == 4) = false := beq_eq_false_iff_ne.2 (by omega)
  have h5 : (k == 5) = false := beq_eq_false_iff_ne.2 (by omega)
  have h6 : (k == 6) = false := beq_eq_false_iff_ne.2 (by omega)
  have h7 : (k == 7) = false := beq_eq_false_iff_ne.2 (by omega)
  have h8 : (k == 8) = false := beq_eq_false_iff_ne.2 (by omega)
  have h9 : (k == 9) = false := beq_eq_false_iff_ne.2 (by omega)
  clear hb1 hS hn hk
  have kc := fun (w : World) (C : Array Value) (n c : Nat) => Lib.run_convert_bytes_const (P := Tryz.prog) w 23 5 C n c Tryz.underlying23 Tryz.underlying5
  have HW1 := Lib.hid hW1
  clear hW1
  try clear hs1
  go_enter Tryz.func57, Tryz.ntmps57
  go_upto_region 1 with fail
  rw [HW1.out]
  go_wp2_with fail
  go_ret
  exact ⟨_, _, rfl, lit13 W1 (4, 5) [110, 117, 108, 108] (by decide) _ _ rfl rfl, HB0.out.alloc HB0.out.size _⟩
set_option maxHeartbeats 4000000 in
theorem sh_true {w : World} {S : Nat → Prop} (n : Int) (A2 A3 A4 : Option Addr) (m2 d2 m3 d3 m4 d4 : Nat) (h1 : n = 1) (hS : ∀ g, S g → g < w.heap.size) (hn : -9223372036854775808 ≤ n ∧ n ≤ 9223372036854775807) :
    Calls Tryz.prog 57 #[.agg #[.int .i64 1, .int .i64 n, .slice A2 m2 d2, .slice A3 m3 d3, .slice A4 m4 d4]] w (NwP w ([116, 114, 117, 101])) := by
  have hb1 := (Below.refl w.heap.size w).alloc (Nat.le_refl _) (.cells #[.int .i64 1, .int .i64 n, .slice A2 m2 d2, .slice A3 m3 d3, .slice A4 m4 d4] 30)
  have hnew := heap_alloc_new w (.cells #[.int .i64 1, .int .i64 n, .slice A2 m2 d2, .slice A3 m3 d3, .slice A4 m4 d4] 30)
  obtain ⟨W1, hW1⟩ : ∃ W1, w.alloc (.cells #[.int .i64 1, .int .i64 n, .slice A2 m2 d2, .slice A3 m3 d3, .slice A4 m4 d4] 30) = W1 := ⟨_, rfl⟩
  have hs1 : W1.heap.size = w.heap.size + 1 := by rw [← hW1]; simp
  rw [hW1] at hb1 hnew
  have y0 : W1.cell? ⟨w.heap.size, 0, none⟩ = some (.int .i64 1) := cell_of_row _ _ 0 _ _ (0, 0) hnew
  have y1 : W1.cell? ⟨w.heap.size, 1, none⟩ = some (.int .i64 n) := cell_of_row _ _ 1 _ _ (0, 0) hnew
  have y2 : W1.cell? ⟨w.heap.size, 2, none⟩ = some (.slice A2 m2 d2) := cell_of_row _ _ 2 _ _ (0, 0) hnew
  have y3 : W1.cell? ⟨w.heap.size, 3, none⟩ = some (.slice A3 m3 d3) := cell_of_row _ _ 3 _ _ (0, 0) hnew
  have y4 : W1.cell? ⟨w.heap.size, 4, none⟩ = some (.slice A4 m4 d4) := cell_of_row _ _ 4 _ _ (0, 0) hnew
  have HB0 := Lib.hid hb1
  subst h1
  clear hb1 hS hn
  have kc := fun (w : World) (C : Array Value) (n c : Nat) => Lib.run_convert_bytes_const (P := Tryz.prog) w 23 5 C n c Tryz.underlying23 Tryz.underlying5
  have HW1 := Lib.hid hW1
  clear hW1
  try clear hs1
  go_enter Tryz.func57, Tryz.ntmps57
  go_upto_region 1 with fail
  rw [HW1.out]
  go_wp2_with fail
  go_ret
  exact ⟨_, _, rfl, lit13 W1 (4, 5) [116, 114, 117, 101] (by decide) _ _ rfl rfl, HB0.out.alloc HB0.out.size _⟩
set_option maxHeartbeats 4000000 in
theorem sh_false {w : World} {S : Nat → Prop} (n : Int) (A2 A3 A4 : Option Addr) (m2 d2 m3 d3 m4 d4 : Nat) (h1 : ¬ n = 1) (hS : ∀ g, S g → g < w.heap.size) (hn : -9223372036854775808 ≤ n ∧ n ≤ 9223372036854775807) :
    Calls Tryz.prog 57 #[.agg #[.int .i64 1, .int .i64 n, .slice A2 m2 d2, .slice A3 m3 d3, .slice A4 m4 d4]] w (NwP w ([102, 97, 108, 115, 101])) := by
  have hb1 := (Below.refl w.heap.size w).alloc (Nat.le_refl _) (.cells #[.int .i64 1, .int .i64 n, .slice A2 m2 d2, .slice A3 m3 d3, .slice A4 m4 d4] 30)
  have hnew := heap_alloc_new w (.cells #[.int .i64 1, .int .i64 n, .slice A2 m2 d2, .slice A3 m3 d3, .slice A4 m4 d4] 30)
  obtain ⟨W1, hW1⟩ : ∃ W1, w.alloc (.cells #[.int .i64 1, .int .i64 n, .slice A2 m2 d2, .slice A3 m3 d3, .slice A4 m4 d4] 30) = W1 := ⟨_, rfl⟩
  have hs1 : W1.heap.size = w.heap.size + 1 := by rw [← hW1]; simp
  rw [hW1] at hb1 hnew
  have y0 : W1.cell? ⟨w.heap.size, 0, none⟩ = some (.int .i64 1) := cell_of_row _ _ 0 _ _ (0, 0) hnew
  have y1 : W1.cell? ⟨w.heap.size, 1, none⟩ = some (.int .i64 n) := cell_of_row _ _ 1 _ _ (0, 0) hnew
  have y2 : W1.cell? ⟨w.heap.size, 2, none⟩ = some (.slice A2 m2 d2) := cell_of_row _ _ 2 _ _ (0, 0) hnew
  have y3 : W1.cell? ⟨w.heap.size, 3, none⟩ = some (.slice A3 m3 d3) := cell_of_row _ _ 3 _ _ (0, 0) hnew
  have y4 : W1.cell? ⟨w.heap.size, 4, none⟩ = some (.slice A4 m4 d4) := cell_of_row _ _ 4 _ _ (0, 0) hnew
  have HB0 := Lib.hid hb1
  have g1 : (n == 1) = false := beq_eq_false_iff_ne.2 h1
  clear hb1 hS hn h1
  have kc := fun (w : World) (C : Array Value) (n c : Nat) => Lib.run_convert_bytes_const (P := Tryz.prog) w 23 5 C n c Tryz.underlying23 Tryz.underlying5
  have HW1 := Lib.hid hW1
  clear hW1
  try clear hs1
  go_enter Tryz.func57, Tryz.ntmps57
  go_upto_region 1 with fail
  rw [HW1.out]
  go_wp2_with fail
  go_ret
  exact ⟨_, _, rfl, lit13 W1 (5, 6) [102, 97, 108, 115, 101] (by decide) _ _ rfl rfl, HB0.out.alloc HB0.out.size _⟩
set_option maxHeartbeats 4000000 in
theorem sh_int {w : World} {S : Nat → Prop} (n : Int) (A2 A3 A4 : Option Addr) (m2 d2 m3 d3 m4 d4 : Nat)  (hS : ∀ g, S g → g < w.heap.size) (hn : -9223372036854775808 ≤ n ∧ n ≤ 9223372036854775807) :
    Calls Tryz.prog 57 #[.agg #[.int .i64 2, .int .i64 n, .slice A2 m2 d2, .slice A3 m3 d3, .slice A4 m4 d4]] w (NwP w (nuZ n true)) := by
  have hb1 := (Below.refl w.heap.size w).alloc (Nat.le_refl _) (.cells #[.int .i64 2, .int .i64 n, .slice A2 m2 d2, .slice A3 m3 d3, .slice A4 m4 d4] 30)
  have hnew := heap_alloc_new w (.cells #[.int .i64 2, .int .i64 n, .slice A2 m2 d2, .slice A3 m3 d3, .slice A4 m4 d4] 30)
  obtain ⟨W1, hW1⟩ : ∃ W1, w.alloc (.cells #[.int .i64 2, .int .i64 n, .slice A2 m2 d2, .slice A3 m3 d3, .slice A4 m4 d4] 30) = W1 := ⟨_, rfl⟩
  have hs1 : W1.heap.size = w.heap.size + 1 := by rw [← hW1]; simp
  rw [hW1] at hb1 hnew
  have y0 : W1.cell? ⟨w.heap.size, 0, none⟩ = some (.int .i64 2) := cell_of_row _ _ 0 _ _ (0, 0) hnew
  have y1 : W1.cell? ⟨w.heap.size, 1, none⟩ = some (.int .i64 n) := cell_of_row _ _ 1 _ _ (0, 0) hnew
  have y2 : W1.cell? ⟨w.heap.size, 2, none⟩ = some (.slice A2 m2 d2) := cell_of_row _ _ 2 _ _ (0, 0) hnew
  have y3 : W1.cell? ⟨w.heap.size, 3, none⟩ = some (.slice A3 m3 d3) := cell_of_row _ _ 3 _ _ (0, 0) hnew
  have y4 : W1.cell? ⟨w.heap.size, 4, none⟩ = some (.slice A4 m4 d4) := cell_of_row _ _ 4 _ _ (0, 0) hnew
  have HB0 := Lib.hid hb1
  have HT := Lib.hid (fun W => refText n true W hn.1 hn.2)
  have HCV := Lib.hid (fun W => str_bytes6 (nuZ n true) (nuZ_rng n true) W)
  rw [text_nums] at HCV
  obtain ⟨T, hT⟩ : ∃ T : ByteArray, ⟨(textB n true).toArray⟩ = T := ⟨_, rfl⟩
  rw [hT] at HT HCV
  obtain ⟨R, hR⟩ : ∃ R, nuZ n true = R := ⟨_, rfl⟩
  rw [hR] at HCV ⊢
  clear hb1 hS hn hT hR
  have kc := fun (w : World) (C : Array Value) (n c : Nat) => Lib.run_convert_bytes_const (P := Tryz.prog) w 23 5 C n c Tryz.underlying23 Tryz.underlying5
  have HW1 := Lib.hid hW1
  clear hW1
  try clear hs1
  go_enter Tryz.func57, Tryz.ntmps57
  go_upto_region 1 with fail
  rw [HW1.out]
  go_wp2_with (go_at_call 60; refine (HT.out _).mono ?_; (rintro r w5 ⟨rfl, hb5⟩); have HB5 := Lib.hid (HB0.out.trans (hb5.mono HB0.out.size)); obtain ⟨cc, ww, hcv, hby, hbe⟩ := HCV.out w5; have HBY := Lib.hid hby; have HBE := Lib.hid (HB5.out.trans (hbe.mono HB5.out.size)); clear hby hbe hb5)
  go_ret
  exact ⟨_, _, rfl, HBY.out, HBE.out⟩
set_option maxHeartbeats 4000000 in
theorem sh_real {w : World} {S : Nat → Prop} (n : Int) (A2 A3 A4 : Option Addr) (m2 d2 m3 d3 m4 d4 : Nat)  (hS : ∀ g, S g → g < w.heap.size) (hn : -9223372036854775808 ≤ n ∧ n ≤ 9223372036854775807) :
    Calls Tryz.prog 57 #[.agg #[.int .i64 3, .int .i64 n, .slice A2 m2 d2, .slice A3 m3 d3, .slice A4 m4 d4]] w (NwP w (nuZ n false)) := by
  have hb1 := (Below.refl w.heap.size w).alloc (Nat.le_refl _) (.cells #[.int .i64 3, .int .i64 n, .slice A2 m2 d2, .slice A3 m3 d3, .slice A4 m4 d4] 30)
  have hnew := heap_alloc_new w (.cells #[.int .i64 3, .int .i64 n, .slice A2 m2 d2, .slice A3 m3 d3, .slice A4 m4 d4] 30)
  obtain ⟨W1, hW1⟩ : ∃ W1, w.alloc (.cells #[.int .i64 3, .int .i64 n, .slice A2 m2 d2, .slice A3 m3 d3, .slice A4 m4 d4] 30) = W1 := ⟨_, rfl⟩
  have hs1 : W1.heap.size = w.heap.size + 1 := by rw [← hW1]; simp
  rw [hW1] at hb1 hnew
  have y0 : W1.cell? ⟨w.heap.size, 0, none⟩ = some (.int .i64 3) := cell_of_row _ _ 0 _ _ (0, 0) hnew
  have y1 : W1.cell? ⟨w.heap.size, 1, none⟩ = some (.int .i64 n) := cell_of_row _ _ 1 _ _ (0, 0) hnew
  have y2 : W1.cell? ⟨w.heap.size, 2, none⟩ = some (.slice A2 m2 d2) := cell_of_row _ _ 2 _ _ (0, 0) hnew
  have y3 : W1.cell? ⟨w.heap.size, 3, none⟩ = some (.slice A3 m3 d3) := cell_of_row _ _ 3 _ _ (0, 0) hnew
  have y4 : W1.cell? ⟨w.heap.size, 4, none⟩ = some (.slice A4 m4 d4) := cell_of_row _ _ 4 _ _ (0, 0) hnew
  have HB0 := Lib.hid hb1
  have HT := Lib.hid (fun W => refText n false W hn.1 hn.2)
  have HCV := Lib.hid (fun W => str_bytes6 (nuZ n false) (nuZ_rng n false) W)
  rw [text_nums] at HCV
  obtain ⟨T, hT⟩ : ∃ T : ByteArray, ⟨(textB n false).toArray⟩ = T := ⟨_, rfl⟩
  rw [hT] at HT HCV
  obtain ⟨R, hR⟩ : ∃ R, nuZ n false = R := ⟨_, rfl⟩
  rw [hR] at HCV ⊢
  clear hb1 hS hn hT hR
  have kc := fun (w : World) (C : Array Value) (n c : Nat) => Lib.run_convert_bytes_const (P := Tryz.prog) w 23 5 C n c Tryz.underlying23 Tryz.underlying5
  have HW1 := Lib.hid hW1
  clear hW1
  try clear hs1
  go_enter Tryz.func57, Tryz.ntmps57
  go_upto_region 1 with fail
  rw [HW1.out]
  go_wp2_with (go_at_call 60; refine (HT.out _).mono ?_; (rintro r w5 ⟨rfl, hb5⟩); have HB5 := Lib.hid (HB0.out.trans (hb5.mono HB0.out.size)); obtain ⟨cc, ww, hcv, hby, hbe⟩ := HCV.out w5; have HBY := Lib.hid hby; have HBE := Lib.hid (HB5.out.trans (hbe.mono HB5.out.size)); clear hby hbe hb5)
  go_ret
  exact ⟨_, _, rfl, HBY.out, HBE.out⟩
set_option maxHeartbeats 4000000 in
theorem sh_ref {w : World} {S : Nat → Prop} (n : Int) (A2 A3 A4 : Option Addr) (m2 d2 m3 d3 m4 d4 : Nat)  (hS : ∀ g, S g → g < w.heap.size) (hn : -9223372036854775808 ≤ n ∧ n ≤ 9223372036854775807) :
    Calls Tryz.prog 57 #[.agg #[.int .i64 9, .int .i64 n, .slice A2 m2 d2, .slice A3 m3 d3, .slice A4 m4 d4]] w (NwP w (nuZ n true ++ [32, 48, 32, 82])) := by
  have hb1 := (Below.refl w.heap.size w).alloc (Nat.le_refl _) (.cells #[.int .i64 9, .int .i64 n, .slice A2 m2 d2, .slice A3 m3 d3, .slice A4 m4 d4] 30)
  have hnew := heap_alloc_new w (.cells #[.int .i64 9, .int .i64 n, .slice A2 m2 d2, .slice A3 m3 d3, .slice A4 m4 d4] 30)
  obtain ⟨W1, hW1⟩ : ∃ W1, w.alloc (.cells #[.int .i64 9, .int .i64 n, .slice A2 m2 d2, .slice A3 m3 d3, .slice A4 m4 d4] 30) = W1 := ⟨_, rfl⟩
  have hs1 : W1.heap.size = w.heap.size + 1 := by rw [← hW1]; simp
  rw [hW1] at hb1 hnew
  have y0 : W1.cell? ⟨w.heap.size, 0, none⟩ = some (.int .i64 9) := cell_of_row _ _ 0 _ _ (0, 0) hnew
  have y1 : W1.cell? ⟨w.heap.size, 1, none⟩ = some (.int .i64 n) := cell_of_row _ _ 1 _ _ (0, 0) hnew
  have y2 : W1.cell? ⟨w.heap.size, 2, none⟩ = some (.slice A2 m2 d2) := cell_of_row _ _ 2 _ _ (0, 0) hnew
  have y3 : W1.cell? ⟨w.heap.size, 3, none⟩ = some (.slice A3 m3 d3) := cell_of_row _ _ 3 _ _ (0, 0) hnew
  have y4 : W1.cell? ⟨w.heap.size, 4, none⟩ = some (.slice A4 m4 d4) := cell_of_row _ _ 4 _ _ (0, 0) hnew
  have HB0 := Lib.hid hb1
  have HT := Lib.hid (fun W => refText n true W hn.1 hn.2)
  have HCV := Lib.hid (fun W => str_bytes6 (nuZ n true ++ [32, 48, 32, 82]) (fun z hz => by
    rcases List.mem_append.1 hz with h | h
    · exact nuZ_rng n true z h
    · exact (by decide : ∀ z ∈ ([32, 48, 32, 82] : List Int), 0 ≤ z ∧ z < 256) z h) W)
  have hsz : (⟨(textB n true).toArray⟩ : ByteArray).size ≤ 100 := by rw [← strZ_len, strZ_text]; exact nuZ_len n true
  rw [strNums_app, text_nums, show strOfNums [32, 48, 32, 82] = ⟨#[32, 48, 32, 82]⟩ from rfl] at HCV
  obtain ⟨T, hT⟩ : ∃ T : ByteArray, ⟨(textB n true).toArray⟩ = T := ⟨_, rfl⟩
  rw [hT] at HT HCV hsz
  have hs4 : T.size + 4 ≤ 9223372036854775807 := by omega
  obtain ⟨R, hR⟩ : ∃ R, nuZ n true ++ [32, 48, 32, 82] = R := ⟨_, rfl⟩
  rw [hR] at HCV ⊢
  clear hb1 hS hn hT hR
  have kc := fun (w : World) (C : Array Value) (n c : Nat) => Lib.run_convert_bytes_const (P := Tryz.prog) w 23 5 C n c Tryz.underlying23 Tryz.underlying5
  have HW1 := Lib.hid hW1
  clear hW1
  try clear hs1
  go_enter Tryz.func57, Tryz.ntmps57
  go_upto_region 1 with fail
  rw [HW1.out]
  go_wp2_with (go_at_call 60; refine (HT.out _).mono ?_; (rintro r w5 ⟨rfl, hb5⟩); have HB5 := Lib.hid (HB0.out.trans (hb5.mono HB0.out.size)); obtain ⟨cc, ww, hcv, hby, hbe⟩ := HCV.out w5; have HBY := Lib.hid hby; have HBE := Lib.hid (HB5.out.trans (hbe.mono HB5.out.size)); clear hby hbe hb5)
  go_ret
  exact ⟨_, _, rfl, HBY.out, HBE.out⟩
set_option maxHeartbeats 4000000 in
theorem sh_str {w : World} {S : Nat → Prop} (n : Int) (A2 A3 A4 : Option Addr) (m2 d2 m3 d3 m4 d4 : Nat) {b : List Int} (hb : BytS w S A2 m2 d2 b) (hlen : b.length ≤ 32767) (hS : ∀ g, S g → g < w.heap.size) (hn : -9223372036854775808 ≤ n ∧ n ≤ 9223372036854775807) :
    Calls Tryz.prog 57 #[.agg #[.int .i64 4, .int .i64 n, .slice A2 m2 d2, .slice A3 m3 d3, .slice A4 m4 d4]] w (NwP w (txS b)) := by
  have hb1 := (Below.refl w.heap.size w).alloc (Nat.le_refl _) (.cells #[.int .i64 4, .int .i64 n, .slice A2 m2 d2, .slice A3 m3 d3, .slice A4 m4 d4] 30)
  have hnew := heap_alloc_new w (.cells #[.int .i64 4, .int .i64 n, .slice A2 m2 d2, .slice A3 m3 d3, .slice A4 m4 d4] 30)
  obtain ⟨W1, hW1⟩ : ∃ W1, w.alloc (.cells #[.int .i64 4, .int .i64 n, .slice A2 m2 d2, .slice A3 m3 d3, .slice A4 m4 d4] 30) = W1 := ⟨_, rfl⟩
  have hs1 : W1.heap.size = w.heap.size + 1 := by rw [← hW1]; simp
  rw [hW1] at hb1 hnew
  have y0 : W1.cell? ⟨w.heap.size, 0, none⟩ = some (.int .i64 4) := cell_of_row _ _ 0 _ _ (0, 0) hnew
  have y1 : W1.cell? ⟨w.heap.size, 1, none⟩ = some (.int .i64 n) := cell_of_row _ _ 1 _ _ (0, 0) hnew
  have y2 : W1.cell? ⟨w.heap.size, 2, none⟩ = some (.slice A2 m2 d2) := cell_of_row _ _ 2 _ _ (0, 0) hnew
  have y3 : W1.cell? ⟨w.heap.size, 3, none⟩ = some (.slice A3 m3 d3) := cell_of_row _ _ 3 _ _ (0, 0) hnew
  have y4 : W1.cell? ⟨w.heap.size, 4, none⟩ = some (.slice A4 m4 d4) := cell_of_row _ _ 4 _ _ (0, 0) hnew
  have HB0 := Lib.hid hb1
  have hby1 : Byt W1 W1.heap.size A2 m2 d2 b := (bytS_byt (hb.keep (fun g hg => hb1.block g (hS g hg)) (fun _ h => h)) hS).more hb1.size
  have hln := hb.1
  have HN := Lib.hid (printTextC A2 m2 d2 b W1 hby1 (by omega))
  clear hb1 hS hn hby1 hb hlen hln
  have kc := fun (w : World) (C : Array Value) (n c : Nat) => Lib.run_convert_bytes_const (P := Tryz.prog) w 23 5 C n c Tryz.underlying23 Tryz.underlying5
  have HW1 := Lib.hid hW1
  clear hW1
  try clear hs1
  go_enter Tryz.func57, Tryz.ntmps57
  go_upto_region 1 with fail
  rw [HW1.out]
  go_wp2_with (go_at_call 21; refine (HN.out).mono ?_; (rintro r w5 ⟨A5, c5, rfl, hy5, hb5⟩); have HY5 := Lib.hid hy5; have HB5 := Lib.hid (HB0.out.trans (hb5.mono HB0.out.size)); clear hy5 hb5)
  go_ret
  exact ⟨_, _, rfl, HY5.out, HB5.out⟩
set_option maxHeartbeats 4000000 in
theorem sh_name {w : World} {S : Nat → Prop} (n : Int) (A2 A3 A4 : Option Addr) (m2 d2 m3 d3 m4 d4 : Nat) {b : List Int} (hb : BytS w S A2 m2 d2 b) (hlen : b.length ≤ 127) (hS : ∀ g, S g → g < w.heap.size) (hn : -9223372036854775808 ≤ n ∧ n ≤ 9223372036854775807) :
    Calls Tryz.prog 57 #[.agg #[.int .i64 5, .int .i64 n, .slice A2 m2 d2, .slice A3 m3 d3, .slice A4 m4 d4]] w (NwP w (47 :: nmS b)) := by
  have hb1 := (Below.refl w.heap.size w).alloc (Nat.le_refl _) (.cells #[.int .i64 5, .int .i64 n, .slice A2 m2 d2, .slice A3 m3 d3, .slice A4 m4 d4] 30)
  have hnew := heap_alloc_new w (.cells #[.int .i64 5, .int .i64 n, .slice A2 m2 d2, .slice A3 m3 d3, .slice A4 m4 d4] 30)
  obtain ⟨W1, hW1⟩ : ∃ W1, w.alloc (.cells #[.int .i64 5, .int .i64 n, .slice A2 m2 d2, .slice A3 m3 d3, .slice A4 m4 d4] 30) = W1 := ⟨_, rfl⟩
  have hs1 : W1.heap.size = w.heap.size + 1 := by rw [← hW1]; simp
  rw [hW1] at hb1 hnew
  have y0 : W1.cell? ⟨w.heap.size, 0, none⟩ = some (.int .i64 5) := cell_of_row _ _ 0 _ _ (0, 0) hnew
  have y1 : W1.cell? ⟨w.heap.size, 1, none⟩ = some (.int .i64 n) := cell_of_row _ _ 1 _ _ (0, 0) hnew
  have y2 : W1.cell? ⟨w.heap.size, 2, none⟩ = some (.slice A2 m2 d2) := cell_of_row _ _ 2 _ _ (0, 0) hnew
  have y3 : W1.cell? ⟨w.heap.size, 3, none⟩ = some (.slice A3 m3 d3) := cell_of_row _ _ 3 _ _ (0, 0) hnew
  have y4 : W1.cell? ⟨w.heap.size, 4, none⟩ = some (.slice A4 m4 d4) := cell_of_row _ _ 4 _ _ (0, 0) hnew
  have HB0 := Lib.hid hb1
  have hby1 : Byt W1 W1.heap.size A2 m2 d2 b := (bytS_byt (hb.keep (fun g hg => hb1.block g (hS g hg)) (fun _ h => h)) hS).more hb1.size
  have hln := hb.1
  obtain ⟨s, hs⟩ : ∃ s, strOfNums b = s := ⟨_, rfl⟩
  have hcv := conv_s13 hby1 s hs
  have hsz : strZ s = b := by rw [← hs]; exact strZ_of13 b hb.2.2.1
  have HN := Lib.hid (printNameC s W1 (by rw [← strZ_len, hsz]; omega))
  rw [hsz] at HN
  clear hb1 hS hn hby1 hb hlen hln hs hsz
  have kc := fun (w : World) (C : Array Value) (n c : Nat) => Lib.run_convert_bytes_const (P := Tryz.prog) w 23 5 C n c Tryz.underlying23 Tryz.underlying5
  have HW1 := Lib.hid hW1
  clear hW1
  try clear hs1
  go_enter Tryz.func57, Tryz.ntmps57
  go_upto_region 1 with fail
  rw [HW1.out]
  go_wp2_with (go_at_call 20; refine (HN.out).mono ?_; (rintro r w5 ⟨v5, rfl, hm5, hb5⟩); obtain ⟨A5, c5, rfl, hy5⟩ := hm5.byt; have HY5 := Lib.hid hy5; have HB5 := Lib.hid (HB0.out.trans (hb5.mono HB0.out.size)); clear hy5 hm5 hb5)
  go_ret
  exact ⟨_, _, rfl, HY5.out, HB5.out⟩
end

section
open Go.RowKit
set_option linter.unusedVariables false
set_option maxRecDepth 100000
set_option maxHeartbeats 4000000 in
theorem sh_arr {w : World} {S : Nat → Prop} (n : Int) (A2 A3 A4 : Option Addr) (m2 d2 m3 d3 m4 d4 : Nat) {N : Nat} (IH : ShC N) (l : Obs) (hl : l.sz ≤ N) (hme : m3 = l.len) (hlc : l.len ≤ d3 ∧ d3 ≤ 9223372036854775807) (hl2 : 0 < l.len → ∃ g o, A3 = some ⟨g, o, none⟩ ∧ S g ∧ ObsR w S l g o) (hf : fnL l) (hb : (prL l true).length + 2 ≤ 10000000000000) (hS : ∀ g, S g → g < w.heap.size) (hn : -9223372036854775808 ≤ n ∧ n ≤ 9223372036854775807) :
    Calls Tryz.prog 57 #[.agg #[.int .i64 6, .int .i64 n, .slice A2 m2 d2, .slice A3 m3 d3, .slice A4 m4 d4]] w (NwP w ([91] ++ prL l true ++ [93])) := by
  have hb1 := (Below.refl w.heap.size w).alloc (Nat.le_refl _) (.cells #[.int .i64 6, .int .i64 n, .slice A2 m2 d2, .slice A3 m3 d3, .slice A4 m4 d4] 30)
  have hnew := heap_alloc_new w (.cells #[.int .i64 6, .int .i64 n, .slice A2 m2 d2, .slice A3 m3 d3, .slice A4 m4 d4] 30)
  obtain ⟨W1, hW1⟩ : ∃ W1, w.alloc (.cells #[.int .i64 6, .int .i64 n, .slice A2 m2 d2, .slice A3 m3 d3, .slice A4 m4 d4] 30) = W1 := ⟨_, rfl⟩
  have hs1 : W1.heap.size = w.heap.size + 1 := by rw [← hW1]; simp
  rw [hW1] at hb1 hnew
  have y0 : W1.cell? ⟨w.heap.size, 0, none⟩ = some (.int .i64 6) := cell_of_row _ _ 0 _ _ (0, 0) hnew
  have y1 : W1.cell? ⟨w.heap.size, 1, none⟩ = some (.int .i64 n) := cell_of_row _ _ 1 _ _ (0, 0) hnew
  have y2 : W1.cell? ⟨w.heap.size, 2, none⟩ = some (.slice A2 m2 d2) := cell_of_row _ _ 2 _ _ (0, 0) hnew
  have y3 : W1.cell? ⟨w.heap.size, 3, none⟩ = some (.slice A3 m3 d3) := cell_of_row _ _ 3 _ _ (0, 0) hnew
  have y4 : W1.cell? ⟨w.heap.size, 4, none⟩ = some (.slice A4 m4 d4) := cell_of_row _ _ 4 _ _ (0, 0) hnew
  have HB0 := Lib.hid hb1
  subst hme
  have HIH := Lib.hid IH
  have HS := Lib.hid hS
  have HS1 := Lib.hid hs1
  have hb2 := (Below.refl W1.heap.size W1).alloc (Nat.le_refl _) (.cells #[.int .u8 91] 5)
  have hm2 := mine_of (W1.alloc (.cells #[.int .u8 91] 5)) W1.heap.size W1.heap.size 1 [91] (heap_alloc_new W1 _) (Nat.le_refl _) (by decide) rfl (by omega)
  have HM0 : Hid (Mine (W1.alloc (.cells #[.int .u8 91] 5)) W1.heap.size (.slice (some ⟨W1.heap.size, 0, none⟩) 1 1) (1 + ([] : List Int).length) ([91] ++ [])) := Lib.hid (by simpa using hm2)
  have HB2 := Lib.hid hb2
  have HR0 : Hid (0 < l.len → ∃ g o, A3 = some ⟨g, o, none⟩ ∧ S g ∧ ObsR w S l g (o + 0 * 5)) := Lib.hid (fun h => by simpa using hl2 h)
  have HF0 := Lib.hid (And.intro hf hl)
  obtain ⟨LL, hLL⟩ : ∃ LL, l.len = LL := ⟨_, rfl⟩
  obtain ⟨TT, hTT⟩ : ∃ TT, prL l true = TT := ⟨_, rfl⟩
  have hmx : LL ≤ 9223372036854775807 := by omega
  rw [hTT] at hb ⊢
  rw [hLL] at hlc y3 hnew hW1 ⊢
  have HNEW := Lib.hid hnew
  have HTT := Lib.hid hTT
  have HB := Lib.hid (And.intro hb hLL)
  clear hb1 hS hn IH hl hlc hl2 hf hb hs1 hnew hb2 hm2 hLL hTT
  have kc := fun (w : World) (C : Array Value) (n c : Nat) => Lib.run_convert_bytes_const (P := Tryz.prog) w 23 5 C n c Tryz.underlying23 Tryz.underlying5
  have HW1 := Lib.hid hW1
  clear hW1
  try clear hs1
  go_enter Tryz.func57, Tryz.ntmps57
  go_upto_region 1 with fail
  rw [HW1.out]
  go_wp2_with fail
  go_loopw [3, 4] (fun s3 s4 wr => ∃ (i : Nat) (r : Obs) (pre : List Int), i + r.len = LL ∧ s4 = .int .i64 i ∧ Hid (Mine wr W1.heap.size s3 (1 + pre.length) ([91] ++ pre)) ∧ Hid (Below W1.heap.size W1 wr) ∧ Hid (0 < r.len → ∃ g o, A3 = some ⟨g, o, none⟩ ∧ S g ∧ ObsR w S r g (o + i * 5)) ∧ Hid (pre ++ prL r (decide (i = 0)) = TT) ∧ Hid (fnL r ∧ r.sz ≤ N)) (fun _ s4 _ => LL - (intOf s4).toNat)
  case atStart => exact ⟨0, l, [], by rw [Nat.zero_add]; exact HB.out.2, rfl, HM0, HB2, HR0, Lib.hid HTT.out, HF0⟩
  case round =>
    obtain ⟨i, r, pre, hil, rfl, HM, HBE, HR, HP, HF⟩ := hrel
    obtain ⟨A7, c7, hv2, _⟩ := HM.out.byt
    subst hv2
    have hbox := (HBE.out.block w.heap.size (by have := HS1.out; omega)).trans HNEW.out
    clear y0 y1 y2 y3 y4
    have y3 : wr.cell? ⟨w.heap.size, 3, none⟩ = some (.slice A3 LL d3) := cell_of_row _ _ 3 _ _ (0, 0) hbox
    cases r with
    | nil =>
      have hil2 : i = LL := by simpa [Obs.len] using hil
      subst hil2
      have HLEN : Hid (pre = TT) := Lib.hid (by have := HP.out; rw [prL, List.append_nil] at this; exact this)
      have HB3 := Lib.hid (HBE.out.alloc HBE.out.size (.cells #[.int .u8 93] 5))
      have HA := Lib.hid ((HM.out.kept ((Below.refl wr.heap.size wr).alloc (Nat.le_refl _) (.cells #[.int .u8 93] 5))).appendX (byt_lit0 wr 93 (by omega)) 23 (by have := HB.out.1; have := HLEN.out; subst this; omega) HB3.out.size)
      clear hil hbox
      go_wp2_with (at_builtin; obtain ⟨v6, w6, hrun, hm6, hk6⟩ := HA.out; obtain ⟨A6, c6, hv6, _⟩ := hm6.byt; subst hv6; refine Lib.wpList_append_run_sl _ rfl (.tmp 71) (.tmp 72) 23 rfl _ _ rfl rfl hrun ?_; clear hrun; have HM6 := Lib.hid hm6; have HK6 := Lib.hid hk6; clear hm6 hk6)
      go_ret
      have h := HM6.out
      have hB := HB0.out.trans (HB3.out.trans (HK6.out.below HB3.out.size (HM.out.kept ((Below.refl wr.heap.size wr).alloc (Nat.le_refl _) (.cells #[.int .u8 93] 5))).owned) |>.mono HB0.out.size)
      rw [HLEN.out] at h ⊢
      obtain ⟨A8, c8, e8, hy8⟩ := h.byt
      injection e8 with e8a e8b e8c
      subst e8a e8c
      have hl8 : 1 + TT.length + 1 = ([91] ++ TT ++ [93]).length := by simp only [List.length_append, List.length_cons, List.length_nil]
      rw [hl8] at hy8 ⊢
      exact ⟨_, _, rfl, hy8, hB⟩
    | cons x xs =>
      rw [Obs.len] at hil
      obtain ⟨g, o, rfl, hg, hob⟩ := HR.out (by simp [Obs.len])
      unfold ObsR at hob
      obtain ⟨⟨e0, e1, e2, e3, e4, q0, q1, q2, q3, q4, hxr⟩, hxs⟩ := hob
      have hgw := HS.out g hg
      have HLOW := Lib.hid (HB0.out.trans (HBE.out.mono HB0.out.size))
      have e := fun j => World.cell?_of_block (a := ⟨g, j, none⟩) (HLOW.out.block g hgw)
      have hff := HF.out
      unfold fnL at hff
      rw [Obs.sz] at hff
      have HXR := Lib.hid hxr
      have HXS : Hid (0 < xs.len → ∃ g' o', some (Addr.mk g o none) = some ⟨g', o', none⟩ ∧ S g' ∧ ObsR w S xs g' (o' + (i + 1) * 5)) := Lib.hid (fun _ => ⟨g, o, rfl, hg, by rw [show o + (i + 1) * 5 = o + i * 5 + 5 by omega]; exact hxs⟩)
      have HFF := Lib.hid hff
      have hi2 : (i : Int) < LL := by omega
      have HIL : Hid (i + 1 + xs.len = LL) := Lib.hid (by omega)
      have HGW := Lib.hid hgw
      have HBX := Lib.hid hbox
      by_cases hi0 : i = 0
      · have hig : ¬ (i : Int) > 0 := by omega
        have HPR : Hid (pre ++ (prO x ++ prL xs false) = TT) := Lib.hid (by have := HP.out; rw [prL, decide_eq_true hi0] at this; simpa using this)
        have HLT : Hid (pre.length + (prO x).length ≤ TT.length) := Lib.hid (by
          have h1 := congrArg List.length HPR.out
          simp only [List.length_append] at h1
          omega)
        have HCV := Lib.hid (HIH.out x (by have := HFF.out.2; omega) S wr _ _ _ _ _ (ObR.keep (fun b hb => HLOW.out.block b (HS.out b hb)) (fun _ h => h) x HXR.out) (fun b hb => Nat.lt_of_lt_of_le (HS.out b hb) HLOW.out.size) HFF.out.1.2.1 (by have := HLT.out; have := HB.out.1; omega))
        have x0 := (e _).trans q0
        have x1 := (e _).trans q1
        have x2 := (e _).trans q2
        have x3 := (e _).trans q3
        have x4 := (e _).trans q4
        clear hi0 hxr hxs hff q0 q1 q2 q3 q4 e hg hil hgw hbox
        go_wp2_with (first
          | (go_at_call 57; refine HCV.out.mono ?_; (rintro r w5 ⟨A5, c5, rfl, hy5, hb5⟩); have HB5 := Lib.hid (HBE.out.trans (hb5.mono HBE.out.size)); have HM5 := Lib.hid (HM.out.kept hb5); have HA := Lib.hid (HM5.out.appendX hy5 23 (by have := HLT.out; have := HB.out.1; omega) HB5.out.size); clear hy5 hb5 x0 x1 x2 x3 x4 y3)
          | (at_builtin; obtain ⟨v6, w6, hrun, hm6, hk6⟩ := HA.out; obtain ⟨A6, c6, hv6, _⟩ := hm6.byt; subst hv6; refine Lib.wpList_append_run_sl _ rfl (.tmp 63) (.tmp 69) 23 rfl _ _ rfl rfl hrun ?_; clear hrun; have HM6 := Lib.hid hm6; have HK6 := Lib.hid hk6; clear hm6 hk6))
        go_roundw
        case rel => exact ⟨i + 1, xs, pre ++ prO x, HIL.out, by go_num, Lib.hid (by have := HM6.out; rw [List.length_append, ← Nat.add_assoc, ← List.append_assoc]; exact this), Lib.hid (HB5.out.trans (HK6.out.below HB5.out.size HM5.out.owned)), HXS, Lib.hid (by rw [decide_eq_false (by omega : ¬ i + 1 = 0), List.append_assoc]; exact HPR.out), Lib.hid ⟨HFF.out.1.2.2, by have := HFF.out.2; omega⟩⟩
        case measure => simp [intOf]; omega
      · have hig : (i : Int) > 0 := by omega
        have HPR : Hid (pre ++ ([32] ++ (prO x ++ prL xs false)) = TT) := Lib.hid (by have := HP.out; rw [prL, decide_eq_false hi0] at this; simpa using this)
        have HLT : Hid (pre.length + 1 + (prO x).length ≤ TT.length) := Lib.hid (by
          have h1 := congrArg List.length HPR.out
          simp only [List.length_append, List.length_cons, List.length_nil] at h1
          omega)
        have hb3 := (Below.refl wr.heap.size wr).alloc (Nat.le_refl _) (.cells #[.int .u8 32] 5)
        have HB3 := Lib.hid (HBE.out.alloc HBE.out.size (.cells #[.int .u8 32] 5))
        have HM3 := Lib.hid (HM.out.kept hb3)
        have HA3 := Lib.hid (HM3.out.appendX (byt_lit0 wr 32 (by omega)) 23 (by have := HLT.out; have := HB.out.1; omega) HB3.out.size)
        have HQ : Hid (∀ W, Below w.heap.size w W → W.cell? ⟨g, o + i * 5, none⟩ = some e0 ∧ W.cell? ⟨g, o + i * 5 + 1, none⟩ = some e1 ∧ W.cell? ⟨g, o + i * 5 + 2, none⟩ = some e2 ∧ W.cell? ⟨g, o + i * 5 + 3, none⟩ = some e3 ∧ W.cell? ⟨g, o + i * 5 + 4, none⟩ = some e4) := Lib.hid (fun W hW => by
          have e := fun j => World.cell?_of_block (a := ⟨g, j, none⟩) (hW.block g hgw)
          exact ⟨(e _).trans q0, (e _).trans q1, (e _).trans q2, (e _).trans q3, (e _).trans q4⟩)
        have HCV := Lib.hid (fun W (hW : Below w.heap.size w W) => HIH.out x (by have := HFF.out.2; omega) S W _ _ _ _ _ (ObR.keep (fun b hb => hW.block b (HS.out b hb)) (fun _ h => h) x HXR.out) (fun b hb => Nat.lt_of_lt_of_le (HS.out b hb) hW.size) HFF.out.1.2.1 (by have := HLT.out; have := HB.out.1; omega))
        clear hi0 hxr hxs hff q0 q1 q2 q3 q4 e hg hil hgw hbox hb3
        go_wp2_with (first
          | (at_builtin; obtain ⟨v4, w4, hrun, hm4, hk4⟩ := HA3.out; obtain ⟨A4', c4', hv4, _⟩ := hm4.byt; subst hv4; refine Lib.wpList_append_run_sl _ rfl (.tmp 60) (.tmp 61) 23 rfl _ _ rfl rfl hrun ?_; clear hrun y3; have HM4 := Lib.hid hm4; have HK4 := Lib.hid hk4; have HB4 := Lib.hid (HB3.out.trans (hk4.below HB3.out.size HM3.out.owned)); have HL4 := Lib.hid (HB0.out.trans (HB4.out.mono HB0.out.size)); (obtain ⟨x0, x1, x2, x3, x4⟩ := HQ.out _ HL4.out); have y3 : w4.cell? ⟨w.heap.size, 3, none⟩ = some (.slice (some ⟨g, o, none⟩) LL d3) := cell_of_row _ _ 3 _ _ (0, 0) ((HB4.out.block w.heap.size (by have := HS1.out; omega)).trans HNEW.out); clear hm4 hk4)
          | (go_at_call 57; refine (HCV.out w4 HL4.out).mono ?_; (rintro r w5 ⟨A5, c5, rfl, hy5, hb5⟩); have HB5 := Lib.hid (HB4.out.trans (hb5.mono HB4.out.size)); have HM5 := Lib.hid (HM4.out.kept hb5); have HA := Lib.hid (HM5.out.appendX hy5 23 (by have := HLT.out; have := HB.out.1; omega) HB5.out.size); clear hy5 hb5 x0 x1 x2 x3 x4 y3)
          | (at_builtin; obtain ⟨v6, w6, hrun, hm6, hk6⟩ := HA.out; obtain ⟨A6, c6, hv6, _⟩ := hm6.byt; subst hv6; refine Lib.wpList_append_run_sl _ rfl (.tmp 63) (.tmp 69) 23 rfl _ _ rfl rfl hrun ?_; clear hrun; have HM6 := Lib.hid hm6; have HK6 := Lib.hid hk6; clear hm6 hk6))
        go_roundw
        case rel => exact ⟨i + 1, xs, pre ++ [32] ++ prO x, HIL.out, by go_num, Lib.hid (by
          have h := HM6.out
          have e1 : 1 + (pre ++ [32] ++ prO x).length = 1 + pre.length + 1 + (prO x).length := by
            simp only [List.length_append, List.length_cons, List.length_nil]
            omega
          have e2 : [91] ++ (pre ++ [32] ++ prO x) = [91] ++ pre ++ [32] ++ prO x := by simp
          rw [e1, e2]
          exact h), Lib.hid (HB5.out.trans (HK6.out.below HB5.out.size HM5.out.owned)), HXS, Lib.hid (by rw [decide_eq_false (by omega : ¬ i + 1 = 0), ← HPR.out]; simp), Lib.hid ⟨HFF.out.1.2.2, by have := HFF.out.2; omega⟩⟩
        case measure => simp [intOf]; omega
end

section
open Go.RowKit
set_option linter.unusedVariables false
set_option maxRecDepth 100000
set_option maxHeartbeats 4000000 in
theorem sh_d7 {w : World} {S : Nat → Prop} (n : Int) (A2 A3 A4 : Option Addr) (m2 d2 m3 d3 m4 d4 : Nat) {N : Nat} (IH : ShC N) (l : Ens) (hl : l.sz ≤ N) (hme : m4 = l.len) (hlc : l.len ≤ d4 ∧ d4 ≤ 9223372036854775807) (hl2 : 0 < l.len → ∃ g o, A4 = some ⟨g, o, none⟩ ∧ S g ∧ EnsR w S l g o) (hf : fnE l) (hb : (prE l).length + 4 ≤ 10000000000000) (hS : ∀ g, S g → g < w.heap.size) (hn : -9223372036854775808 ≤ n ∧ n ≤ 9223372036854775807) :
    Calls Tryz.prog 57 #[.agg #[.int .i64 7, .int .i64 n, .slice A2 m2 d2, .slice A3 m3 d3, .slice A4 m4 d4]] w (NwP w ([60, 60] ++ prE l ++ [62, 62])) := by
  have hb1 := (Below.refl w.heap.size w).alloc (Nat.le_refl _) (.cells #[.int .i64 7, .int .i64 n, .slice A2 m2 d2, .slice A3 m3 d3, .slice A4 m4 d4] 30)
  have hnew := heap_alloc_new w (.cells #[.int .i64 7, .int .i64 n, .slice A2 m2 d2, .slice A3 m3 d3, .slice A4 m4 d4] 30)
  obtain ⟨W1, hW1⟩ : ∃ W1, w.alloc (.cells #[.int .i64 7, .int .i64 n, .slice A2 m2 d2, .slice A3 m3 d3, .slice A4 m4 d4] 30) = W1 := ⟨_, rfl⟩
  have hs1 : W1.heap.size = w.heap.size + 1 := by rw [← hW1]; simp
  rw [hW1] at hb1 hnew
  have y0 : W1.cell? ⟨w.heap.size, 0, none⟩ = some (.int .i64 7) := cell_of_row _ _ 0 _ _ (0, 0) hnew
  have y1 : W1.cell? ⟨w.heap.size, 1, none⟩ = some (.int .i64 n) := cell_of_row _ _ 1 _ _ (0, 0) hnew
  have y2 : W1.cell? ⟨w.heap.size, 2, none⟩ = some (.slice A2 m2 d2) := cell_of_row _ _ 2 _ _ (0, 0) hnew
  have y3 : W1.cell? ⟨w.heap.size, 3, none⟩ = some (.slice A3 m3 d3) := cell_of_row _ _ 3 _ _ (0, 0) hnew
  have y4 : W1.cell? ⟨w.heap.size, 4, none⟩ = some (.slice A4 m4 d4) := cell_of_row _ _ 4 _ _ (0, 0) hnew
  have HB0 := Lib.hid hb1
  subst hme
  have HIH := Lib.hid IH
  have HS := Lib.hid hS
  have HS1 := Lib.hid hs1
  have hb2 := (Below.refl W1.heap.size W1).alloc (Nat.le_refl _) (.cells #[.int .u8 60, .int .u8 60] 5 (2, 3))
  have hm2 := RowB.lit W1 W1.heap.size (Nat.le_refl _) (2, 3) [60, 60] (by decide) 2 rfl (by omega) #[.int .u8 60, .int .u8 60] rfl
  have HM0 : Hid (RowB true (W1.alloc (.cells #[.int .u8 60, .int .u8 60] 5 (2, 3))) W1.heap.size (.slice (some ⟨W1.heap.size, 0, none⟩) 2 2) (2 + ([] : List Int).length) ([60, 60] ++ [])) := Lib.hid (by simpa using hm2)
  have HB2 := Lib.hid hb2
  have HR0 : Hid (0 < l.len → ∃ g o, A4 = some ⟨g, o, none⟩ ∧ S g ∧ EnsR w S l g (o + 0 * 6)) := Lib.hid (fun h => by simpa using hl2 h)
  have HF0 := Lib.hid (And.intro hf hl)
  obtain ⟨LL, hLL⟩ : ∃ LL, l.len = LL := ⟨_, rfl⟩
  obtain ⟨TT, hTT⟩ : ∃ TT, prE l = TT := ⟨_, rfl⟩
  have hmx : LL ≤ 9223372036854775807 := by omega
  rw [hTT] at hb ⊢
  rw [hLL] at hlc y4 hnew hW1 ⊢
  have HNEW := Lib.hid hnew
  have HTT := Lib.hid hTT
  have HB := Lib.hid (And.intro hb hLL)
  clear hb1 hS hn IH hl hlc hl2 hf hb hs1 hnew hb2 hm2 hLL hTT
  have kc := fun (w : World) (C : Array Value) (n c : Nat) => Lib.run_convert_bytes_const (P := Tryz.prog) w 23 5 C n c Tryz.underlying23 Tryz.underlying5
  have HW1 := Lib.hid hW1
  clear hW1
  try clear hs1
  go_enter Tryz.func57, Tryz.ntmps57
  go_upto_region 1 with fail
  rw [HW1.out]
  go_wp2_with fail
  go_loopw [5, 6] (fun s3 s4 wr => ∃ (i : Nat) (r : Ens) (pre : List Int), i + r.len = LL ∧ s4 = .int .i64 i ∧ Hid (RowB true wr W1.heap.size s3 (2 + pre.length) ([60, 60] ++ pre)) ∧ Hid (Below W1.heap.size W1 wr) ∧ Hid (0 < r.len → ∃ g o, A4 = some ⟨g, o, none⟩ ∧ S g ∧ EnsR w S r g (o + i * 6)) ∧ Hid (pre ++ prE r = TT) ∧ Hid (fnE r ∧ r.sz ≤ N)) (fun _ s4 _ => LL - (intOf s4).toNat)
  case atStart => exact ⟨0, l, [], by rw [Nat.zero_add]; exact HB.out.2, rfl, HM0, HB2, HR0, Lib.hid HTT.out, HF0⟩
  case round =>
    obtain ⟨i, r, pre, hil, rfl, HM, HBE, HR, HP, HF⟩ := hrel
    obtain ⟨A7, c7, hv2, _⟩ := HM.out.byt
    subst hv2
    have HY4 : Hid (∀ W, Below W1.heap.size W1 W → W.cell? ⟨w.heap.size, 4, none⟩ = some (.slice A4 LL d4)) := Lib.hid (fun W hW => cell_of_row _ _ 4 _ _ (0, 0) ((hW.block w.heap.size (by have := HS1.out; omega)).trans HNEW.out))
    clear y0 y1 y2 y3 y4
    have y4 := HY4.out wr HBE.out
    cases r with
    | nil =>
      have hil2 : i = LL := by simpa [Ens.len] using hil
      subst hil2
      have HLEN : Hid (pre = TT) := Lib.hid (by have := HP.out; rw [prE, List.append_nil] at this; exact this)
      have HA := Lib.hid (HM.out.appendSX ⟨#[62, 62]⟩ (by decide) (by have : (⟨#[62, 62]⟩ : ByteArray).size = 2 := rfl; have := HB.out.1; have := HLEN.out; subst this; omega) HBE.out.size)
      clear hil
      go_wp2_with (at_builtin; obtain ⟨v6, w6, hrun, hm6, hk6⟩ := HA.out; refine Lib.wpList_append_run _ rfl _ _ _ _ rfl _ _ rfl rfl _ _ hrun ?_; clear hrun; have HM6 := Lib.hid hm6; have HK6 := Lib.hid hk6; clear hm6 hk6)
      go_ret
      have h := HM6.out
      have hB := HB0.out.trans (HBE.out.trans (HK6.out.below HBE.out.size HM.out.owned) |>.mono HB0.out.size)
      rw [HLEN.out, show strZ ⟨#[62, 62]⟩ = [62, 62] from rfl] at h
      have hl8 : 2 + TT.length + (⟨#[62, 62]⟩ : ByteArray).size = ([60, 60] ++ TT ++ [62, 62]).length := by
        simp only [List.length_append, List.length_cons, List.length_nil]
        rfl
      rw [hl8] at h
      obtain ⟨A8, c8, e8, hy8⟩ := h.byt
      subst e8
      exact ⟨_, _, rfl, hy8, hB⟩
    | cons s x xs =>
      rw [Ens.len] at hil
      obtain ⟨g, o, rfl, hg, hob⟩ := HR.out (by simp [Ens.len])
      unfold EnsR at hob
      obtain ⟨⟨e0, e1, e2, e3, e4, qs, q0, q1, q2, q3, q4, hxr⟩, hxs⟩ := hob
      have hgw := HS.out g hg
      have HLOW := Lib.hid (HB0.out.trans (HBE.out.mono HB0.out.size))
      have hff := HF.out
      unfold fnE at hff
      rw [Ens.sz] at hff
      have HXR := Lib.hid hxr
      have HXS : Hid (0 < xs.len → ∃ g' o', some (Addr.mk g o none) = some ⟨g', o', none⟩ ∧ S g' ∧ EnsR w S xs g' (o' + (i + 1) * 6)) := Lib.hid (fun _ => ⟨g, o, rfl, hg, by rw [show o + (i + 1) * 6 = o + i * 6 + 6 by omega]; exact hxs⟩)
      have HFF := Lib.hid hff
      have hi2 : (i : Int) < LL := by omega
      have HIL : Hid (i + 1 + xs.len = LL) := Lib.hid (by omega)
      have HPR : Hid (pre ++ ((47 :: nmS (strZ s)) ++ ([32] ++ (prO x ++ prE xs))) = TT) := Lib.hid (by have := HP.out; rw [prE] at this; rw [← this]; simp)
      have HLT : Hid (pre.length + ((47 :: nmS (strZ s)).length + 1 + (prO x).length) ≤ TT.length) := Lib.hid (by
        have h1 := congrArg List.length HPR.out
        simp only [List.length_append, List.length_cons, List.length_nil] at h1 ⊢
        omega)
      have HNM := Lib.hid (printNameC s wr (by have := hff.1.1; omega))
      obtain ⟨NM, hNM⟩ : ∃ NM, 47 :: nmS (strZ s) = NM := ⟨_, rfl⟩
      rw [hNM] at HNM HPR HLT
      have HQ : Hid (∀ W, Below w.heap.size w W → W.cell? ⟨g, o + i * 6, none⟩ = some (.string s) ∧ W.cell? ⟨g, o + i * 6 + 1, none⟩ = some e0 ∧ W.cell? ⟨g, o + i * 6 + 2, none⟩ = some e1 ∧ W.cell? ⟨g, o + i * 6 + 3, none⟩ = some e2 ∧ W.cell? ⟨g, o + i * 6 + 4, none⟩ = some e3 ∧ W.cell? ⟨g, o + i * 6 + 5, none⟩ = some e4) := Lib.hid (fun W hW => by
        have e := fun j => World.cell?_of_block (a := ⟨g, j, none⟩) (hW.block g hgw)
        exact ⟨(e _).trans qs, (e _).trans q0, (e _).trans q1, (e _).trans q2, (e _).trans q3, (e _).trans q4⟩)
      have HCV := Lib.hid (fun W (hW : Below w.heap.size w W) => HIH.out x (by have := HFF.out.2; omega) S W _ _ _ _ _ (ObR.keep (fun b hb => hW.block b (HS.out b hb)) (fun _ h => h) x HXR.out) (fun b hb => Nat.lt_of_lt_of_le (HS.out b hb) hW.size) HFF.out.1.2.2.1 (by have := HLT.out; have := HB.out.1; omega))
      clear hxr hxs hff qs q0 q1 q2 q3 q4 hg hil hgw hNM
      (obtain ⟨x0, x1, x2, x3, x4, x5⟩ := HQ.out _ HLOW.out)
      go_wp2_with (first
        | (go_at_call 20; refine HNM.out.mono ?_; (rintro r w3 ⟨v3, rfl, hm3, hb3⟩); obtain ⟨A3', c3', rfl, hy3⟩ := hm3.byt; have HB3 := Lib.hid (HBE.out.trans (hb3.mono HBE.out.size)); have HM3 := Lib.hid (HM.out.kept hb3); have HA3 := Lib.hid (HM3.out.appendX hy3 (by have := HLT.out; have := HB.out.1; omega) HB3.out.size); clear hy3 hm3 hb3 x0 x1 x2 x3 x4 x5 y4)
        | (at_builtin; obtain ⟨v4, w4, hrun, hm4, hk4⟩ := HA3.out; obtain ⟨A4', c4', hv4, _⟩ := hm4.byt; subst hv4; refine Lib.wpList_append_run_sl _ rfl (.tmp 86) (.tmp 93) 23 rfl _ _ rfl rfl hrun ?_; clear hrun; have HM4 := Lib.hid hm4; have HB4 := Lib.hid (HB3.out.trans (hk4.below HB3.out.size HM3.out.owned)); clear hm4 hk4; have HB5 := Lib.hid (HB4.out.alloc HB4.out.size (.cells #[.int .u8 32] 5)); have HM5 := Lib.hid (HM4.out.kept ((Below.refl w4.heap.size w4).alloc (Nat.le_refl _) (.cells #[.int .u8 32] 5))); have HA5 := Lib.hid (HM5.out.appendX (byt_lit0 w4 32 (by omega)) (by have := HLT.out; have := HB.out.1; omega) HB5.out.size))
        | (at_builtin; obtain ⟨v6, w6, hrun, hm6, hk6⟩ := HA5.out; obtain ⟨A6, c6, hv6, _⟩ := hm6.byt; subst hv6; refine Lib.wpList_append_run_sl _ rfl (.tmp 95) (.tmp 96) 23 rfl _ _ rfl rfl hrun ?_; clear hrun; have HM6 := Lib.hid hm6; have HB6 := Lib.hid (HB5.out.trans (hk6.below HB5.out.size HM5.out.owned)); clear hm6 hk6; have HL6 := Lib.hid (HB0.out.trans (HB6.out.mono HB0.out.size)); (obtain ⟨x0, x1, x2, x3, x4, x5⟩ := HQ.out _ HL6.out); have y4 := HY4.out _ HB6.out)
        | (go_at_call 57; refine (HCV.out w6 HL6.out).mono ?_; (rintro r w7 ⟨A7', c7', rfl, hy7, hb7⟩); have HB7 := Lib.hid (HB6.out.trans (hb7.mono HB6.out.size)); have HM7 := Lib.hid (HM6.out.kept hb7); have HA7 := Lib.hid (HM7.out.appendX hy7 (by have := HLT.out; have := HB.out.1; omega) HB7.out.size); clear hy7 hb7 x0 x1 x2 x3 x4 x5 y4)
        | (at_builtin; obtain ⟨v8, w8, hrun, hm8, hk8⟩ := HA7.out; obtain ⟨A8, c8, hv8, _⟩ := hm8.byt; subst hv8; refine Lib.wpList_append_run_sl _ rfl (.tmp 98) (.tmp 105) 23 rfl _ _ rfl rfl hrun ?_; clear hrun; have HM8 := Lib.hid hm8; have HK8 := Lib.hid hk8; clear hm8 hk8))
      go_roundw
      case rel => exact ⟨i + 1, xs, pre ++ NM ++ [32] ++ prO x, HIL.out, by go_num, Lib.hid (by
        have h := HM8.out
        have e1 : 2 + (pre ++ NM ++ [32] ++ prO x).length = 2 + pre.length + NM.length + 1 + (prO x).length := by
          simp only [List.length_append, List.length_cons, List.length_nil]
          omega
        have e2 : [60, 60] ++ (pre ++ NM ++ [32] ++ prO x) = [60, 60] ++ pre ++ NM ++ [32] ++ prO x := by simp
        rw [e1, e2]
        exact h), Lib.hid (HB7.out.trans (HK8.out.below HB7.out.size HM7.out.owned)), HXS, Lib.hid (by rw [← HPR.out]; simp), Lib.hid ⟨HFF.out.1.2.2.2, by have := HFF.out.2; omega⟩⟩
      case measure => simp [intOf]; omega
set_option maxHeartbeats 4000000 in
theorem sh_d8 {w : World} {S : Nat → Prop} (n : Int) (A2 A3 A4 : Option Addr) (m2 d2 m3 d3 m4 d4 : Nat) {N : Nat} (IH : ShC N) (l : Ens) (hl : l.sz ≤ N) (hme : m4 = l.len) (hlc : l.len ≤ d4 ∧ d4 ≤ 9223372036854775807) (hl2 : 0 < l.len → ∃ g o, A4 = some ⟨g, o, none⟩ ∧ S g ∧ EnsR w S l g o) (hf : fnE l) (hb : (prE l).length + 4 ≤ 10000000000000) (hS : ∀ g, S g → g < w.heap.size) (hn : -9223372036854775808 ≤ n ∧ n ≤ 9223372036854775807) :
    Calls Tryz.prog 57 #[.agg #[.int .i64 8, .int .i64 n, .slice A2 m2 d2, .slice A3 m3 d3, .slice A4 m4 d4]] w (NwP w ([60, 60] ++ prE l ++ [62, 62])) := by
  have hb1 := (Below.refl w.heap.size w).alloc (Nat.le_refl _) (.cells #[.int .i64 8, .int .i64 n, .slice A2 m2 d2, .slice A3 m3 d3, .slice A4 m4 d4] 30)
  have hnew := heap_alloc_new w (.cells #[.int .i64 8, .int .i64 n, .slice A2 m2 d2, .slice A3 m3 d3, .slice A4 m4 d4] 30)
  obtain ⟨W1, hW1⟩ : ∃ W1, w.alloc (.cells #[.int .i64 8, .int .i64 n, .slice A2 m2 d2, .slice A3 m3 d3, .slice A4 m4 d4] 30) = W1 := ⟨_, rfl⟩
  have hs1 : W1.heap.size = w.heap.size + 1 := by rw [← hW1]; simp
  rw [hW1] at hb1 hnew
  have y0 : W1.cell? ⟨w.heap.size, 0, none⟩ = some (.int .i64 8) := cell_of_row _ _ 0 _ _ (0, 0) hnew
  have y1 : W1.cell? ⟨w.heap.size, 1, none⟩ = some (.int .i64 n) := cell_of_row _ _ 1 _ _ (0, 0) hnew
  have y2 : W1.cell? ⟨w.heap.size, 2, none⟩ = some (.slice A2 m2 d2) := cell_of_row _ _ 2 _ _ (0, 0) hnew
  have y3 : W1.cell? ⟨w.heap.size, 3, none⟩ = some (.slice A3 m3 d3) := cell_of_row _ _ 3 _ _ (0, 0) hnew
  have y4 : W1.cell? ⟨w.heap.size, 4, none⟩ = some (.slice A4 m4 d4) := cell_of_row _ _ 4 _ _ (0, 0) hnew
  have HB0 := Lib.hid hb1
  subst hme
  have HIH := Lib.hid IH
  have HS := Lib.hid hS
  have HS1 := Lib.hid hs1
  have hb2 := (Below.refl W1.heap.size W1).alloc (Nat.le_refl _) (.cells #[.int .u8 60, .int .u8 60] 5 (2, 3))
  have hm2 := RowB.lit W1 W1.heap.size (Nat.le_refl _) (2, 3) [60, 60] (by decide) 2 rfl (by omega) #[.int .u8 60, .int .u8 60] rfl
  have HM0 : Hid (RowB true (W1.alloc (.cells #[.int .u8 60, .int .u8 60] 5 (2, 3))) W1.heap.size (.slice (some ⟨W1.heap.size, 0, none⟩) 2 2) (2 + ([] : List Int).length) ([60, 60] ++ [])) := Lib.hid (by simpa using hm2)
  have HB2 := Lib.hid hb2
  have HR0 : Hid (0 < l.len → ∃ g o, A4 = some ⟨g, o, none⟩ ∧ S g ∧ EnsR w S l g (o + 0 * 6)) := Lib.hid (fun h => by simpa using hl2 h)
  have HF0 := Lib.hid (And.intro hf hl)
  obtain ⟨LL, hLL⟩ : ∃ LL, l.len = LL := ⟨_, rfl⟩
  obtain ⟨TT, hTT⟩ : ∃ TT, prE l = TT := ⟨_, rfl⟩
  have hmx : LL ≤ 9223372036854775807 := by omega
  rw [hTT] at hb ⊢
  rw [hLL] at hlc y4 hnew hW1 ⊢
  have HNEW := Lib.hid hnew
  have HTT := Lib.hid hTT
  have HB := Lib.hid (And.intro hb hLL)
  clear hb1 hS hn IH hl hlc hl2 hf hb hs1 hnew hb2 hm2 hLL hTT
  have kc := fun (w : World) (C : Array Value) (n c : Nat) => Lib.run_convert_bytes_const (P := Tryz.prog) w 23 5 C n c Tryz.underlying23 Tryz.underlying5
  have HW1 := Lib.hid hW1
  clear hW1
  try clear hs1
  go_enter Tryz.func57, Tryz.ntmps57
  go_upto_region 1 with fail
  rw [HW1.out]
  go_wp2_with fail
  go_loopw [5, 6] (fun s3 s4 wr => ∃ (i : Nat) (r : Ens) (pre : List Int), i + r.len = LL ∧ s4 = .int .i64 i ∧ Hid (RowB true wr W1.heap.size s3 (2 + pre.length) ([60, 60] ++ pre)) ∧ Hid (Below W1.heap.size W1 wr) ∧ Hid (0 < r.len → ∃ g o, A4 = some ⟨g, o, none⟩ ∧ S g ∧ EnsR w S r g (o + i * 6)) ∧ Hid (pre ++ prE r = TT) ∧ Hid (fnE r ∧ r.sz ≤ N)) (fun _ s4 _ => LL - (intOf s4).toNat)
  case atStart => exact ⟨0, l, [], by rw [Nat.zero_add]; exact HB.out.2, rfl, HM0, HB2, HR0, Lib.hid HTT.out, HF0⟩
  case round =>
    obtain ⟨i, r, pre, hil, rfl, HM, HBE, HR, HP, HF⟩ := hrel
    obtain ⟨A7, c7, hv2, _⟩ := HM.out.byt
    subst hv2
    have HY4 : Hid (∀ W, Below W1.heap.size W1 W → W.cell? ⟨w.heap.size, 4, none⟩ = some (.slice A4 LL d4)) := Lib.hid (fun W hW => cell_of_row _ _ 4 _ _ (0, 0) ((hW.block w.heap.size (by have := HS1.out; omega)).trans HNEW.out))
    clear y0 y1 y2 y3 y4
    have y4 := HY4.out wr HBE.out
    cases r with
    | nil =>
      have hil2 : i = LL := by simpa [Ens.len] using hil
      subst hil2
      have HLEN : Hid (pre = TT) := Lib.hid (by have := HP.out; rw [prE, List.append_nil] at this; exact this)
      have HA := Lib.hid (HM.out.appendSX ⟨#[62, 62]⟩ (by decide) (by have : (⟨#[62, 62]⟩ : ByteArray).size = 2 := rfl; have := HB.out.1; have := HLEN.out; subst this; omega) HBE.out.size)
      clear hil
      go_wp2_with (at_builtin; obtain ⟨v6, w6, hrun, hm6, hk6⟩ := HA.out; refine Lib.wpList_append_run _ rfl _ _ _ _ rfl _ _ rfl rfl _ _ hrun ?_; clear hrun; have HM6 := Lib.hid hm6; have HK6 := Lib.hid hk6; clear hm6 hk6)
      go_ret
      have h := HM6.out
      have hB := HB0.out.trans (HBE.out.trans (HK6.out.below HBE.out.size HM.out.owned) |>.mono HB0.out.size)
      rw [HLEN.out, show strZ ⟨#[62, 62]⟩ = [62, 62] from rfl] at h
      have hl8 : 2 + TT.length + (⟨#[62, 62]⟩ : ByteArray).size = ([60, 60] ++ TT ++ [62, 62]).length := by
        simp only [List.length_append, List.length_cons, List.length_nil]
        rfl
      rw [hl8] at h
      obtain ⟨A8, c8, e8, hy8⟩ := h.byt
      subst e8
      exact ⟨_, _, rfl, hy8, hB⟩
    | cons s x xs =>
      rw [Ens.len] at hil
      obtain ⟨g, o, rfl, hg, hob⟩ := HR.out (by simp [Ens.len])
      unfold EnsR at hob
      obtain ⟨⟨e0, e1, e2, e3, e4, qs, q0, q1, q2, q3, q4, hxr⟩, hxs⟩ := hob
      have hgw := HS.out g hg
      have HLOW := Lib.hid (HB0.out.trans (HBE.out.mono HB0.out.size))
      have hff := HF.out
      unfold fnE at hff
      rw [Ens.sz] at hff
      have HXR := Lib.hid hxr
      have HXS : Hid (0 < xs.len → ∃ g' o', some (Addr.mk g o none) = some ⟨g', o', none⟩ ∧ S g' ∧ EnsR w S xs g' (o' + (i + 1) * 6)) := Lib.hid (fun _ => ⟨g, o, rfl, hg, by rw [show o + (i + 1) * 6 = o + i * 6 + 6 by omega]; exact hxs⟩)
      have HFF := Lib.hid hff
      have hi2 : (i : Int) < LL := by omega
      have HIL : Hid (i + 1 + xs.len = LL) := Lib.hid (by omega)
      have HPR : Hid (pre ++ ((47 :: nmS (strZ s)) ++ ([32] ++ (prO x ++ prE xs))) = TT) := Lib.hid (by have := HP.out; rw [prE] at this; rw [← this]; simp)
      have HLT : Hid (pre.length + ((47 :: nmS (strZ s)).length + 1 + (prO x).length) ≤ TT.length) := Lib.hid (by
        have h1 := congrArg List.length HPR.out
        simp only [List.length_append, List.length_cons, List.length_nil] at h1 ⊢
        omega)
      have HNM := Lib.hid (printNameC s wr (by have := hff.1.1; omega))
      obtain ⟨NM, hNM⟩ : ∃ NM, 47 :: nmS (strZ s) = NM := ⟨_, rfl⟩
      rw [hNM] at HNM HPR HLT
      have HQ : Hid (∀ W, Below w.heap.size w W → W.cell? ⟨g, o + i * 6, none⟩ = some (.string s) ∧ W.cell? ⟨g, o + i * 6 + 1, none⟩ = some e0 ∧ W.cell? ⟨g, o + i * 6 + 2, none⟩ = some e1 ∧ W.cell? ⟨g, o + i * 6 + 3, none⟩ = some e2 ∧ W.cell? ⟨g, o + i * 6 + 4, none⟩ = some e3 ∧ W.cell? ⟨g, o + i * 6 + 5, none⟩ = some e4) := Lib.hid (fun W hW => by
        have e := fun j => World.cell?_of_block (a := ⟨g, j, none⟩) (hW.block g hgw)
        exact ⟨(e _).trans qs, (e _).trans q0, (e _).trans q1, (e _).trans q2, (e _).trans q3, (e _).trans q4⟩)
      have HCV := Lib.hid (fun W (hW : Below w.heap.size w W) => HIH.out x (by have := HFF.out.2; omega) S W _ _ _ _ _ (ObR.keep (fun b hb => hW.block b (HS.out b hb)) (fun _ h => h) x HXR.out) (fun b hb => Nat.lt_of_lt_of_le (HS.out b hb) hW.size) HFF.out.1.2.2.1 (by have := HLT.out; have := HB.out.1; omega))
      clear hxr hxs hff qs q0 q1 q2 q3 q4 hg hil hgw hNM
      (obtain ⟨x0, x1, x2, x3, x4, x5⟩ := HQ.out _ HLOW.out)
      go_wp2_with (first
        | (go_at_call 20; refine HNM.out.mono ?_; (rintro r w3 ⟨v3, rfl, hm3, hb3⟩); obtain ⟨A3', c3', rfl, hy3⟩ := hm3.byt; have HB3 := Lib.hid (HBE.out.trans (hb3.mono HBE.out.size)); have HM3 := Lib.hid (HM.out.kept hb3); have HA3 := Lib.hid (HM3.out.appendX hy3 (by have := HLT.out; have := HB.out.1; omega) HB3.out.size); clear hy3 hm3 hb3 x0 x1 x2 x3 x4 x5 y4)
        | (at_builtin; obtain ⟨v4, w4, hrun, hm4, hk4⟩ := HA3.out; obtain ⟨A4', c4', hv4, _⟩ := hm4.byt; subst hv4; refine Lib.wpList_append_run_sl _ rfl (.tmp 86) (.tmp 93) 23 rfl _ _ rfl rfl hrun ?_; clear hrun; have HM4 := Lib.hid hm4; have HB4 := Lib.hid (HB3.out.trans (hk4.below HB3.out.size HM3.out.owned)); clear hm4 hk4; have HB5 := Lib.hid (HB4.out.alloc HB4.out.size (.cells #[.int .u8 32] 5)); have HM5 := Lib.hid (HM4.out.kept ((Below.refl w4.heap.size w4).alloc (Nat.le_refl _) (.cells #[.int .u8 32] 5))); have HA5 := Lib.hid (HM5.out.appendX (byt_lit0 w4 32 (by omega)) (by have := HLT.out; have := HB.out.1; omega) HB5.out.size))
        | (at_builtin; obtain ⟨v6, w6, hrun, hm6, hk6⟩ := HA5.out; obtain ⟨A6, c6, hv6, _⟩ := hm6.byt; subst hv6; refine Lib.wpList_append_run_sl _ rfl (.tmp 95) (.tmp 96) 23 rfl _ _ rfl rfl hrun ?_; clear hrun; have HM6 := Lib.hid hm6; have HB6 := Lib.hid (HB5.out.trans (hk6.below HB5.out.size HM5.out.owned)); clear hm6 hk6; have HL6 := Lib.hid (HB0.out.trans (HB6.out.mono HB0.out.size)); (obtain ⟨x0, x1, x2, x3, x4, x5⟩ := HQ.out _ HL6.out); have y4 := HY4.out _ HB6.out)
        | (go_at_call 57; refine (HCV.out w6 HL6.out).mono ?_; (rintro r w7 ⟨A7', c7', rfl, hy7, hb7⟩); have HB7 := Lib.hid (HB6.out.trans (hb7.mono HB6.out.size)); have HM7 := Lib.hid (HM6.out.kept hb7); have HA7 := Lib.hid (HM7.out.appendX hy7 (by have := HLT.out; have := HB.out.1; omega) HB7.out.size); clear hy7 hb7 x0 x1 x2 x3 x4 x5 y4)
        | (at_builtin; obtain ⟨v8, w8, hrun, hm8, hk8⟩ := HA7.out; obtain ⟨A8, c8, hv8, _⟩ := hm8.byt; subst hv8; refine Lib.wpList_append_run_sl _ rfl (.tmp 98) (.tmp 105) 23 rfl _ _ rfl rfl hrun ?_; clear hrun; have HM8 := Lib.hid hm8; have HK8 := Lib.hid hk8; clear hm8 hk8))
      go_roundw
      case rel => exact ⟨i + 1, xs, pre ++ NM ++ [32] ++ prO x, HIL.out, by go_num, Lib.hid (by
        have h := HM8.out
        have e1 : 2 + (pre ++ NM ++ [32] ++ prO x).length = 2 + pre.length + NM.length + 1 + (prO x).length := by
          simp only [List.length_append, List.length_cons, List.length_nil]
          omega
        have e2 : [60, 60] ++ (pre ++ NM ++ [32] ++ prO x) = [60, 60] ++ pre ++ NM ++ [32] ++ prO x := by simp
        rw [e1, e2]
        exact h), Lib.hid (HB7.out.trans (HK8.out.below HB7.out.size HM7.out.owned)), HXS, Lib.hid (by rw [← HPR.out]; simp), Lib.hid ⟨HFF.out.1.2.2.2, by have := HFF.out.2; omega⟩⟩
      case measure => simp [intOf]; omega
theorem showC : ∀ N, ShC N
  | 0 => fun x hN => by
    obtain ⟨k, n, b, l, d⟩ := x
    rw [Ob.sz] at hN; omega
  | N + 1 => fun x hN S w c0 c1 c2 c3 c4 hx hS hf hb => by
    obtain ⟨k, n, b, l, d⟩ := x
    rw [Ob.sz] at hN
    unfold ObR at hx
    obtain ⟨rfl, rfl, hk, hn, ⟨A2, m2, d2, rfl, hB⟩, ⟨A3, d3, rfl, hlc, hl⟩, ⟨A4, d4, rfl, hdc, hd⟩⟩ := hx
    unfold fnO at hf
    obtain ⟨f5, f4, fl, fe⟩ := hf
    rw [prO] at hb ⊢
    by_cases k1 : k = 1
    · subst k1; rw [if_pos rfl]
      by_cases n1 : n = 1
      · rw [if_pos n1]; exact sh_true n A2 A3 A4 m2 d2 _ d3 _ d4 n1 hS hn
      · rw [if_neg n1]; exact sh_false n A2 A3 A4 m2 d2 _ d3 _ d4 n1 hS hn
    rw [if_neg k1] at hb ⊢
    by_cases k2 : k = 2
    · subst k2; rw [if_pos rfl]
      exact sh_int n A2 A3 A4 m2 d2 _ d3 _ d4 hS hn
    rw [if_neg k2] at hb ⊢
    by_cases k3 : k = 3
    · subst k3; rw [if_pos rfl]
      exact sh_real n A2 A3 A4 m2 d2 _ d3 _ d4 hS hn
    rw [if_neg k3] at hb ⊢
    by_cases k4 : k = 4
    · subst k4; rw [if_pos rfl]
      exact sh_str n A2 A3 A4 m2 d2 _ d3 _ d4 hB (f4 rfl) hS hn
    rw [if_neg k4] at hb ⊢
    by_cases k5 : k = 5
    · subst k5; rw [if_pos rfl]
      exact sh_name n A2 A3 A4 m2 d2 _ d3 _ d4 hB (f5 rfl) hS hn
    rw [if_neg k5] at hb ⊢
    by_cases k9 : k = 9
    · subst k9; rw [if_pos rfl]
      exact sh_ref n A2 A3 A4 m2 d2 _ d3 _ d4 hS hn
    rw [if_neg k9] at hb ⊢
    by_cases k6 : k = 6
    · subst k6; rw [if_pos rfl] at hb ⊢
      exact sh_arr n A2 A3 A4 m2 d2 _ d3 _ d4 (showC N) l (by omega) rfl hlc hl fl (by simp only [List.length_append, List.length_cons, List.length_nil] at hb; omega) hS hn
    rw [if_neg k6] at hb ⊢
    by_cases k7 : k = 7
    · subst k7; rw [if_pos (.inl rfl)] at hb ⊢
      exact sh_d7 n A2 A3 A4 m2 d2 _ d3 _ d4 (showC N) d (by omega) rfl hdc hd fe (by simp only [List.length_append, List.length_cons, List.length_nil] at hb; omega) hS hn
    by_cases k8 : k = 8
    · subst k8; rw [if_pos (.inr rfl)] at hb ⊢
      exact sh_d8 n A2 A3 A4 m2 d2 _ d3 _ d4 (showC N) d (by omega) rfl hdc hd fe (by simp only [List.length_append, List.length_cons, List.length_nil] at hb; omega) hS hn
    rw [if_neg (by omega)]
    exact sh_null n A2 A3 A4 m2 d2 _ d3 _ d4 (by omega) hS hn
end

section
open Go.RowKit
set_option linter.unusedVariables false
set_option maxRecDepth 100000
section
variable {x : Ob} {w : World} {c0 c1 c2 c3 c4 : Value}
set_option maxHeartbeats 1000000 in
/-- The project's Value of what may be. -/
theorem pVal_yes (hx : ObR w (fun g => g < w.heap.size) x c0 c1 c2 c3 c4) (ht : Tab w) (hok : okO x) (hht : htO x ≤ 100000000) (hm : mayO x 28 = true) (h8 : x.kind ≠ 8) (hl : (prO x).length ≤ 10000000000000) :
    Calls Tryz.prog 12 #[.agg #[c0, c1, c2, c3, c4]] w fun r w' => ∃ v, r = .returned (.tuple #[v, .int .i64 0]) ∧ Mine w' w.heap.size v (prO x).length (prO x) ∧ Below w.heap.size w w' := by
  obtain ⟨k9, n9, A29, m29, c29, A39, m39, c39, A49, m49, c49, rfl, rfl, rfl, rfl, rfl⟩ := hx.form
  have hkx : k9 = x.kind := by have := kind_c0 hx; injection this
  have hb1 := (Below.refl w.heap.size w).alloc (Nat.le_refl _) (.cells #[.int .i64 k9, .int .i64 n9, .slice A29 m29 c29, .slice A39 m39 c39, .slice A49 m49 c49] 30)
  have hn1 := heap_alloc_new w (.cells #[.int .i64 k9, .int .i64 n9, .slice A29 m29 c29, .slice A39 m39 c39, .slice A49 m49 c49] 30)
  obtain ⟨W1, hW1⟩ : ∃ W1, w.alloc (.cells #[.int .i64 k9, .int .i64 n9, .slice A29 m29 c29, .slice A39 m39 c39, .slice A49 m49 c49] 30) = W1 := ⟨_, rfl⟩
  have hs1 : W1.heap.size = w.heap.size + 1 := by rw [← hW1]; simp
  rw [hW1] at hb1 hn1
  have HCE : Hid (∀ W, Below W1.heap.size W1 W → W.cell? ⟨w.heap.size, 0, none⟩ = some (.int .i64 k9) ∧ W.cell? ⟨w.heap.size, 1, none⟩ = some (.int .i64 n9) ∧ W.cell? ⟨w.heap.size, 2, none⟩ = some (.slice A29 m29 c29) ∧ W.cell? ⟨w.heap.size, 3, none⟩ = some (.slice A39 m39 c39) ∧ W.cell? ⟨w.heap.size, 4, none⟩ = some (.slice A49 m49 c49)) := Lib.hid (fun W hW => by
    have e := (hW.block w.heap.size (by omega)).trans hn1
    exact ⟨cell_of_row _ _ 0 _ _ (0, 0) e, cell_of_row _ _ 1 _ _ (0, 0) e, cell_of_row _ _ 2 _ _ (0, 0) e, cell_of_row _ _ 3 _ _ (0, 0) e, cell_of_row _ _ 4 _ _ (0, 0) e⟩)
  have HMY := Lib.hid (hm ▸ pMayC x (fun g => g < w.heap.size) W1 _ _ _ _ _ (ObR.keep (fun g hg => hb1.block g hg) (fun _ h => h) x hx) (fun g hg => Nat.lt_of_lt_of_le hg hb1.size) hok hht)
  have HVL := Lib.hid (fun W (hW : Below w.heap.size w W) => pvalC x.sz x (Nat.le_refl _) (fun g => g < w.heap.size) W w.heap.size 0 (.slice none 0 0) [] _ _ _ _ _ (ObR.keep (fun g hg => hW.block g hg) (fun _ h => h) x hx) (fun _ h => h) hW.size ((TabB.of ht).below hW) (Mine.nil W w.heap.size) (fn_mayO x 28 hm) h8 (by omega))
  have HB1 := Lib.hid hb1
  have hk8 : (k9 == 8) = false := beq_eq_false_iff_ne.2 (by rw [hkx]; exact h8)
  obtain ⟨R, hR⟩ : ∃ R, prO x = R := ⟨_, rfl⟩
  rw [hR] at HVL ⊢
  obtain ⟨q0, q1, q2, q3, q4⟩ := HCE.out W1 (Below.refl _ _)
  clear hx ht hok hht hm h8 hl hb1 hn1 hs1 hR hkx
  go_enter Tryz.func12, Tryz.ntmps12
  go_wp2_with (first
    | (go_at_call 45; refine HMY.out.mono ?_; (rintro r w2 ⟨rfl, hb2⟩); clear q0 q1 q2 q3 q4; (obtain ⟨q0, q1, q2, q3, q4⟩ := HCE.out w2 hb2); have HB2 := Lib.hid (HB1.out.trans (hb2.mono HB1.out.size)); clear hb2)
    | (go_at_call 46; refine (HVL.out w2 HB2.out).mono ?_; (rintro r w3 ⟨v3, rfl, hm3, hb3⟩); have HM3 := Lib.hid hm3; have HB3 := Lib.hid (HB2.out.trans hb3); clear hm3 hb3))
  go_ret2
  refine ⟨_, rfl, ?_, HB3.out⟩
  have h := HM3.out
  rw [Nat.zero_add, List.nil_append] at h
  exact h
set_option maxHeartbeats 1000000 in
theorem pVal_no (hx : ObR w (fun g => g < w.heap.size) x c0 c1 c2 c3 c4) (hok : okO x) (hht : htO x ≤ 100000000) (hm : ¬ (mayO x 28 = true ∧ x.kind ≠ 8)) :
    Calls Tryz.prog 12 #[.agg #[c0, c1, c2, c3, c4]] w fun r w' => r = .returned (.tuple #[.slice none 0 0, .int .i64 1]) ∧ Below w.heap.size w w' := by
  obtain ⟨k9, n9, A29, m29, c29, A39, m39, c39, A49, m49, c49, rfl, rfl, rfl, rfl, rfl⟩ := hx.form
  have hkx : k9 = x.kind := by have := kind_c0 hx; injection this
  have hb1 := (Below.refl w.heap.size w).alloc (Nat.le_refl _) (.cells #[.int .i64 k9, .int .i64 n9, .slice A29 m29 c29, .slice A39 m39 c39, .slice A49 m49 c49] 30)
  have hn1 := heap_alloc_new w (.cells #[.int .i64 k9, .int .i64 n9, .slice A29 m29 c29, .slice A39 m39 c39, .slice A49 m49 c49] 30)
  obtain ⟨W1, hW1⟩ : ∃ W1, w.alloc (.cells #[.int .i64 k9, .int .i64 n9, .slice A29 m29 c29, .slice A39 m39 c39, .slice A49 m49 c49] 30) = W1 := ⟨_, rfl⟩
  have hs1 : W1.heap.size = w.heap.size + 1 := by rw [← hW1]; simp
  rw [hW1] at hb1 hn1
  have HCE : Hid (∀ W, Below W1.heap.size W1 W → W.cell? ⟨w.heap.size, 0, none⟩ = some (.int .i64 k9) ∧ W.cell? ⟨w.heap.size, 1, none⟩ = some (.int .i64 n9) ∧ W.cell? ⟨w.heap.size, 2, none⟩ = some (.slice A29 m29 c29) ∧ W.cell? ⟨w.heap.size, 3, none⟩ = some (.slice A39 m39 c39) ∧ W.cell? ⟨w.heap.size, 4, none⟩ = some (.slice A49 m49 c49)) := Lib.hid (fun W hW => by
    have e := (hW.block w.heap.size (by omega)).trans hn1
    exact ⟨cell_of_row _ _ 0 _ _ (0, 0) e, cell_of_row _ _ 1 _ _ (0, 0) e, cell_of_row _ _ 2 _ _ (0, 0) e, cell_of_row _ _ 3 _ _ (0, 0) e, cell_of_row _ _ 4 _ _ (0, 0) e⟩)
  obtain ⟨M, hM⟩ : ∃ M, mayO x 28 = M := ⟨_, rfl⟩
  have HMY := Lib.hid (hM ▸ pMayC x (fun g => g < w.heap.size) W1 _ _ _ _ _ (ObR.keep (fun g hg => hb1.block g hg) (fun _ h => h) x hx) (fun g hg => Nat.lt_of_lt_of_le hg hb1.size) hok hht)
  have HB1 := Lib.hid hb1
  obtain ⟨q0, q1, q2, q3, q4⟩ := HCE.out W1 (Below.refl _ _)
  cases M
  · clear hx hok hht hm hb1 hn1 hs1 hkx hM
    go_enter Tryz.func12, Tryz.ntmps12
    go_wp2_with (go_at_call 45; refine HMY.out.mono ?_; (rintro r w2 ⟨rfl, hb2⟩); clear q0 q1 q2 q3 q4; (obtain ⟨q0, q1, q2, q3, q4⟩ := HCE.out w2 hb2); have HB2 := Lib.hid (HB1.out.trans (hb2.mono HB1.out.size)); clear hb2)
    go_ret2
    exact ⟨rfl, HB2.out⟩
  · obtain rfl : k9 = 8 := by rw [hkx]; exact Classical.byContradiction fun h => hm ⟨hM, h⟩
    clear hx hok hht hm hb1 hn1 hs1 hkx hM
    go_enter Tryz.func12, Tryz.ntmps12
    go_wp2_with (go_at_call 45; refine HMY.out.mono ?_; (rintro r w2 ⟨rfl, hb2⟩); clear q0 q1 q2 q3 q4; (obtain ⟨q0, q1, q2, q3, q4⟩ := HCE.out w2 hb2); have HB2 := Lib.hid (HB1.out.trans (hb2.mono HB1.out.size)); clear hb2)
    go_ret2
    exact ⟨rfl, HB2.out⟩
set_option maxHeartbeats 1000000 in
/-- The document's Print of what may be. -/
theorem rPr_yes (hx : ObR w (fun g => g < w.heap.size) x c0 c1 c2 c3 c4) (hm : mayO x 28 = true) (h8 : x.kind ≠ 8) (hl : (prO x).length ≤ 10000000000000) :
    Calls Tryz.prog 18 #[.agg #[c0, c1, c2, c3, c4]] w fun r w' => ∃ A c, r = .returned (.tuple #[.slice A (prO x).length c, .int .i64 0]) ∧ Byt w' w'.heap.size A (prO x).length c (prO x) ∧ Below w.heap.size w w' := by
  obtain ⟨k9, n9, A29, m29, c29, A39, m39, c39, A49, m49, c49, rfl, rfl, rfl, rfl, rfl⟩ := hx.form
  have hkx : k9 = x.kind := by have := kind_c0 hx; injection this
  have hb1 := (Below.refl w.heap.size w).alloc (Nat.le_refl _) (.cells #[.int .i64 k9, .int .i64 n9, .slice A29 m29 c29, .slice A39 m39 c39, .slice A49 m49 c49] 30)
  have hn1 := heap_alloc_new w (.cells #[.int .i64 k9, .int .i64 n9, .slice A29 m29 c29, .slice A39 m39 c39, .slice A49 m49 c49] 30)
  obtain ⟨W1, hW1⟩ : ∃ W1, w.alloc (.cells #[.int .i64 k9, .int .i64 n9, .slice A29 m29 c29, .slice A39 m39 c39, .slice A49 m49 c49] 30) = W1 := ⟨_, rfl⟩
  have hs1 : W1.heap.size = w.heap.size + 1 := by rw [← hW1]; simp
  rw [hW1] at hb1 hn1
  have HCE : Hid (∀ W, Below W1.heap.size W1 W → W.cell? ⟨w.heap.size, 0, none⟩ = some (.int .i64 k9) ∧ W.cell? ⟨w.heap.size, 1, none⟩ = some (.int .i64 n9) ∧ W.cell? ⟨w.heap.size, 2, none⟩ = some (.slice A29 m29 c29) ∧ W.cell? ⟨w.heap.size, 3, none⟩ = some (.slice A39 m39 c39) ∧ W.cell? ⟨w.heap.size, 4, none⟩ = some (.slice A49 m49 c49)) := Lib.hid (fun W hW => by
    have e := (hW.block w.heap.size (by omega)).trans hn1
    exact ⟨cell_of_row _ _ 0 _ _ (0, 0) e, cell_of_row _ _ 1 _ _ (0, 0) e, cell_of_row _ _ 2 _ _ (0, 0) e, cell_of_row _ _ 3 _ _ (0, 0) e, cell_of_row _ _ 4 _ _ (0, 0) e⟩)
  have HMY := Lib.hid (hm ▸ mayTopC x (fun g => g < w.heap.size) W1 _ _ _ _ _ (ObR.keep (fun g hg => hb1.block g hg) (fun _ h => h) x hx) (fun g hg => Nat.lt_of_lt_of_le hg hb1.size))
  have HVL := Lib.hid (fun W (hW : Below w.heap.size w W) => showC x.sz x (Nat.le_refl _) (fun g => g < w.heap.size) W _ _ _ _ _ (ObR.keep (fun g hg => hW.block g hg) (fun _ h => h) x hx) (fun g hg => Nat.lt_of_lt_of_le hg hW.size) (fn_mayO x 28 hm) hl)
  have HB1 := Lib.hid hb1
  have hk8 : (k9 == 8) = false := beq_eq_false_iff_ne.2 (by rw [hkx]; exact h8)
  obtain ⟨R, hR⟩ : ∃ R, prO x = R := ⟨_, rfl⟩
  rw [hR] at HVL ⊢
  obtain ⟨q0, q1, q2, q3, q4⟩ := HCE.out W1 (Below.refl _ _)
  clear hx hm h8 hl hb1 hn1 hs1 hR hkx
  go_enter Tryz.func18, Tryz.ntmps18
  go_wp2_with (first
    | (go_at_call 23; refine HMY.out.mono ?_; (rintro r w2 ⟨rfl, hb2⟩); clear q0 q1 q2 q3 q4; (obtain ⟨q0, q1, q2, q3, q4⟩ := HCE.out w2 hb2); have HB2 := Lib.hid (HB1.out.trans (hb2.mono HB1.out.size)); clear hb2)
    | (go_at_call 57; refine (HVL.out w2 HB2.out).mono ?_; (rintro r w3 ⟨A3, d3, rfl, hy3, hb3⟩); have HY3 := Lib.hid hy3; have HB3 := Lib.hid (HB2.out.trans (hb3.mono HB2.out.size)); clear hy3 hb3))
  go_ret2
  exact ⟨_, _, rfl, HY3.out, HB3.out⟩
set_option maxHeartbeats 1000000 in
theorem rPr_no (hx : ObR w (fun g => g < w.heap.size) x c0 c1 c2 c3 c4) (hm : ¬ (mayO x 28 = true ∧ x.kind ≠ 8)) :
    Calls Tryz.prog 18 #[.agg #[c0, c1, c2, c3, c4]] w fun r w' => r = .returned (.tuple #[.slice none 0 0, .int .i64 1]) ∧ Below w.heap.size w w' := by
  obtain ⟨k9, n9, A29, m29, c29, A39, m39, c39, A49, m49, c49, rfl, rfl, rfl, rfl, rfl⟩ := hx.form
  have hkx : k9 = x.kind := by have := kind_c0 hx; injection this
  have hb1 := (Below.refl w.heap.size w).alloc (Nat.le_refl _) (.cells #[.int .i64 k9, .int .i64 n9, .slice A29 m29 c29, .slice A39 m39 c39, .slice A49 m49 c49] 30)
  have hn1 := heap_alloc_new w (.cells #[.int .i64 k9, .int .i64 n9, .slice A29 m29 c29, .slice A39 m39 c39, .slice A49 m49 c49] 30)
  obtain ⟨W1, hW1⟩ : ∃ W1, w.alloc (.cells #[.int .i64 k9, .int .i64 n9, .slice A29 m29 c29, .slice A39 m39 c39, .slice A49 m49 c49] 30) = W1 := ⟨_, rfl⟩
  have hs1 : W1.heap.size = w.heap.size + 1 := by rw [← hW1]; simp
  rw [hW1] at hb1 hn1
  have HCE : Hid (∀ W, Below W1.heap.size W1 W → W.cell? ⟨w.heap.size, 0, none⟩ = some (.int .i64 k9) ∧ W.cell? ⟨w.heap.size, 1, none⟩ = some (.int .i64 n9) ∧ W.cell? ⟨w.heap.size, 2, none⟩ = some (.slice A29 m29 c29) ∧ W.cell? ⟨w.heap.size, 3, none⟩ = some (.slice A39 m39 c39) ∧ W.cell? ⟨w.heap.size, 4, none⟩ = some (.slice A49 m49 c49)) := Lib.hid (fun W hW => by
    have e := (hW.block w.heap.size (by omega)).trans hn1
    exact ⟨cell_of_row _ _ 0 _ _ (0, 0) e, cell_of_row _ _ 1 _ _ (0, 0) e, cell_of_row _ _ 2 _ _ (0, 0) e, cell_of_row _ _ 3 _ _ (0, 0) e, cell_of_row _ _ 4 _ _ (0, 0) e⟩)
  obtain ⟨M, hM⟩ : ∃ M, mayO x 28 = M := ⟨_, rfl⟩
  have HMY := Lib.hid (hM ▸ mayTopC x (fun g => g < w.heap.size) W1 _ _ _ _ _ (ObR.keep (fun g hg => hb1.block g hg) (fun _ h => h) x hx) (fun g hg => Nat.lt_of_lt_of_le hg hb1.size))
  have HB1 := Lib.hid hb1
  obtain ⟨q0, q1, q2, q3, q4⟩ := HCE.out W1 (Below.refl _ _)
  cases M
  · clear hx hm hb1 hn1 hs1 hkx hM
    go_enter Tryz.func18, Tryz.ntmps18
    go_wp2_with (go_at_call 23; refine HMY.out.mono ?_; (rintro r w2 ⟨rfl, hb2⟩); clear q0 q1 q2 q3 q4; (obtain ⟨q0, q1, q2, q3, q4⟩ := HCE.out w2 hb2); have HB2 := Lib.hid (HB1.out.trans (hb2.mono HB1.out.size)); clear hb2)
    go_ret2
    exact ⟨rfl, HB2.out⟩
  · obtain rfl : k9 = 8 := by rw [hkx]; exact Classical.byContradiction fun h => hm ⟨hM, h⟩
    clear hx hm hb1 hn1 hs1 hkx hM
    go_enter Tryz.func18, Tryz.ntmps18
    go_wp2_with (go_at_call 23; refine HMY.out.mono ?_; (rintro r w2 ⟨rfl, hb2⟩); clear q0 q1 q2 q3 q4; (obtain ⟨q0, q1, q2, q3, q4⟩ := HCE.out w2 hb2); have HB2 := Lib.hid (HB1.out.trans (hb2.mono HB1.out.size)); clear hb2)
    go_ret2
    exact ⟨rfl, HB2.out⟩
end
end

section
open Go.RowKit
set_option linter.unusedVariables false
set_option maxRecDepth 100000
abbrev aI : Ob := .mk 2 1 [] .nil .nil
abbrev aR : Ob := .mk 3 150000 [] .nil .nil
abbrev aN : Ob := .mk 5 0 [120, 32, 121] .nil .nil
abbrev aL : Obs := .cons aI (.cons aR (.cons aN .nil))
abbrev aA : Ob := .mk 6 0 [] aL .nil
abbrev aB : Ob := .mk 4 0 [97, 41] .nil .nil
abbrev aE : Ens := .cons ⟨#[65]⟩ aA (.cons ⟨#[66]⟩ aB .nil)
abbrev aD : Ob := .mk 7 0 [] .nil aE
theorem aD_pr : prO aD = [60, 60, 47, 65, 32, 91, 49, 32, 49, 46, 53, 32, 47, 120, 35, 50, 48, 121, 93, 47, 66, 32, 60, 54, 49, 50, 57, 62, 62, 62] := by decide +kernel
theorem aD_may : mayO aD 28 = true := by decide +kernel
theorem aE_dict : dictF aE .nil = aE := by
  have h : mayE aE none 28 = true := by decide +kernel
  exact dict_self13 h
theorem aD_ok : okO aD ∧ htO aD ≤ 100000000 := by
  have h := bkO_all aD (by decide +kernel)
  exact ⟨h.1, Nat.le_trans h.2.1 (by decide +kernel)⟩
theorem aL_ok : okL aL := (bkL_all aL (by decide +kernel)).1
theorem aE_ok : okE aE := (bkE_all aE (by decide +kernel)).1
theorem aA_ok : okO aA := (bkO_all aA (by decide +kernel)).1
theorem aB_ok : okO aB := (bkO_all aB (by decide +kernel)).1
theorem ObR.to {w w' : World} {S S' : Nat → Prop} {x : Ob} {c0 c1 c2 c3 c4 : Value} (h : ObR w S x c0 c1 c2 c3 c4) (hS : ∀ g, S g → g < w.heap.size) (hb : Below w.heap.size w w') (hS' : ∀ g, g < w'.heap.size → S' g) : ObR w' S' x c0 c1 c2 c3 c4 :=
  ObR.keep (fun g hg => hb.block g (hS g hg)) (fun g hg => hS' g (Nat.lt_of_lt_of_le (hS g hg) hb.size)) x h
set_option maxHeartbeats 8000000 in
theorem awake13 (w : World) (ht : Tab w) : Calls Tryz.prog 11 #[] w fun r w' => r = .returned (.bool true) ∧ Below w.heap.size w w' := by
  have HI := Lib.hid (fun W => intC 1 W (by omega))
  have HN := Lib.hid (fun W => nameOC ⟨#[120, 32, 121]⟩ W (by decide))
  have hN : strZ ⟨#[120, 32, 121]⟩ = [120, 32, 121] := rfl
  rw [hN] at HN
  have HT := Lib.hid ht
  clear ht hN
  have kc := fun (w : World) (C : Array Value) (n c : Nat) => Lib.run_convert_bytes_const (P := Tryz.prog) w 23 5 C n c Tryz.underlying23 Tryz.underlying5
  go_enter Tryz.func11, Tryz.ntmps11
  go_wp2_with (first
    | (go_at_call 31; refine (HI.out _).mono ?_; (rintro r w1 ⟨d0, d1, d2, d3, d4, rfl, hx1, hb1⟩); (obtain ⟨ak, an, aA2, am2, ac2, aA3, am3, ac3, aA4, am4, ac4, rfl, rfl, rfl, rfl, rfl⟩ := hx1.form); have HX1 := Lib.hid hx1; have HB1 := Lib.hid hb1; clear hx1 hb1)
    | (go_at_call 43; refine (HN.out _).mono ?_; (rintro r w2 ⟨d0, d1, d2, d3, d4, rfl, hx2, hb2⟩); (obtain ⟨bk, bn, bA2, bm2, bc2, bA3, bm3, bc3, bA4, bm4, bc4, rfl, rfl, rfl, rfl, rfl⟩ := hx2.form); have HX2 := Lib.hid hx2; have HB2 := Lib.hid hb2; clear hx2 hb2)
    | (go_at_call 42; generalize hW3 : w2.alloc (.cells #[.int .i64 ak, .int .i64 an, .slice aA2 am2 ac2, .slice aA3 am3 ac3, .slice aA4 am4 ac4, .int .i64 3, .int .i64 150000, .slice none 0 0, .slice none 0 0, .slice none 0 0, .int .i64 bk, .int .i64 bn, .slice bA2 bm2 bc2, .slice bA3 bm3 bc3, .slice bA4 bm4 bc4] 30) = W3; have hb3 : Below w2.heap.size w2 W3 := (hW3 ▸ (Below.refl w2.heap.size w2).alloc (Nat.le_refl _) _); have hn3 : W3.heap[w2.heap.size]? = some (.cells #[.int .i64 ak, .int .i64 an, .slice aA2 am2 ac2, .slice aA3 am3 ac3, .slice aA4 am4 ac4, .int .i64 3, .int .i64 150000, .slice none 0 0, .slice none 0 0, .slice none 0 0, .int .i64 bk, .int .i64 bn, .slice bA2 bm2 bc2, .slice bA3 bm3 bc3, .slice bA4 bm4 bc4] 30 (0, 0)) := (hW3 ▸ heap_alloc_new w2 _); have hs3 : W3.heap.size = w2.heap.size + 1 := (by rw [← hW3]; simp); have HB3 := Lib.hid ((HB1.out.trans (HB2.out.mono HB1.out.size)).trans (hb3.mono (Nat.le_trans HB1.out.size HB2.out.size))); refine (arrC aL (fun g => g < W3.heap.size) W3 (some ⟨w2.heap.size, 0, none⟩) 3 ⟨by decide, fun _ => ⟨w2.heap.size, 0, rfl, by omega, (by
        unfold ObsR
        refine ⟨⟨_, _, _, _, _, cell_of_row _ _ 0 _ _ (0, 0) hn3, cell_of_row _ _ 1 _ _ (0, 0) hn3, cell_of_row _ _ 2 _ _ (0, 0) hn3, cell_of_row _ _ 3 _ _ (0, 0) hn3, cell_of_row _ _ 4 _ _ (0, 0) hn3, HX1.out.to (fun g hg => hg.2) (HB2.out.trans (hb3.mono HB2.out.size)) (fun _ h => h)⟩, ?_⟩
        unfold ObsR
        refine ⟨⟨_, _, _, _, _, cell_of_row _ _ 5 _ _ (0, 0) hn3, cell_of_row _ _ 6 _ _ (0, 0) hn3, cell_of_row _ _ 7 _ _ (0, 0) hn3, cell_of_row _ _ 8 _ _ (0, 0) hn3, cell_of_row _ _ 9 _ _ (0, 0) hn3, ObR.plain (by omega) (by omega) (bytS_nil _ _)⟩, ?_⟩
        unfold ObsR
        refine ⟨⟨_, _, _, _, _, cell_of_row _ _ 10 _ _ (0, 0) hn3, cell_of_row _ _ 11 _ _ (0, 0) hn3, cell_of_row _ _ 12 _ _ (0, 0) hn3, cell_of_row _ _ 13 _ _ (0, 0) hn3, cell_of_row _ _ 14 _ _ (0, 0) hn3, HX2.out.to (fun g hg => hg.2) hb3 (fun _ h => h)⟩, ?_⟩
        unfold ObsR
        trivial)⟩⟩ (fun _ h => h) aL_ok (by decide)).mono ?_; (rintro r w4 ⟨d0, d1, d2, d3, d4, rfl, hx4, hb4⟩); (obtain ⟨ck, cn, cA2, cm2, cc2, cA3, cm3, cc3, cA4, cm4, cc4, rfl, rfl, rfl, rfl, rfl⟩ := hx4.form); have HX4 := Lib.hid hx4; have HB4 := Lib.hid (HB3.out.trans (hb4.mono HB3.out.size)); clear hx4 hb4 hb3 hn3 hs3)
    | (go_at_call 41; refine (rPairC ⟨#[65]⟩ aA (fun g => g < w4.heap.size) w4 _ _ _ _ _ (HX4.out.to (fun g hg => hg.2) (Below.refl _ _) (fun _ h => h)) (fun _ h => h) aA_ok).mono ?_; (rintro r w5 ⟨d0, d1, d2, d3, d4, rfl, hx5, hb5⟩); (obtain ⟨dk, dn, dA2, dm2, dc2, dA3, dm3, dc3, dA4, dm4, dc4, rfl, rfl, rfl, rfl, rfl⟩ := hx5.form); have HX5 := Lib.hid hx5; have HB5 := Lib.hid (HB4.out.trans (hb5.mono HB4.out.size)); clear hx5 hb5 HX4)
    | (go_at_call 44; have hy6 := lit13 w5 (2, 3) [97, 41] (by decide) #[.int .u8 97, .int .u8 41] 2 rfl rfl; have hb6 := (Below.refl w5.heap.size w5).alloc (Nat.le_refl _) (.cells #[.int .u8 97, .int .u8 41] 5 (2, 3)); refine (strC _ 2 2 [97, 41] _ hy6 (by omega)).mono ?_; (rintro r w7 ⟨d0, d1, d2, d3, d4, rfl, hx7, hb7⟩); (obtain ⟨ek, en, eA2, em2, ec2, eA3, em3, ec3, eA4, em4, ec4, rfl, rfl, rfl, rfl, rfl⟩ := hx7.form); have HX7 := Lib.hid hx7; have HB57 := Lib.hid (hb6.trans (hb7.mono hb6.size)); have HB7 := Lib.hid (HB5.out.trans (HB57.out.mono HB5.out.size)); clear hx7 hb7 hb6 hy6)
    | (go_at_call 41; refine (rPairC ⟨#[66]⟩ aB (fun g => g < w7.heap.size) w7 _ _ _ _ _ (HX7.out.to (fun g hg => hg.2) (Below.refl _ _) (fun _ h => h)) (fun _ h => h) aB_ok).mono ?_; (rintro r w8 ⟨d0, d1, d2, d3, d4, rfl, hx8, hb8⟩); (obtain ⟨fk, fn, fA2, fm2, fc2, fA3, fm3, fc3, fA4, fm4, fc4, rfl, rfl, rfl, rfl, rfl⟩ := hx8.form); have HX8 := Lib.hid hx8; have HB78 := Lib.hid hb8; have HB8 := Lib.hid (HB7.out.trans (hb8.mono HB7.out.size)); clear hx8 hb8 HX7)
    | (go_at_call 30; generalize hW9 : w8.alloc (.cells #[.string ⟨#[65]⟩, .int .i64 dk, .int .i64 dn, .slice dA2 dm2 dc2, .slice dA3 dm3 dc3, .slice dA4 dm4 dc4, .string ⟨#[66]⟩, .int .i64 fk, .int .i64 fn, .slice fA2 fm2 fc2, .slice fA3 fm3 fc3, .slice fA4 fm4 fc4] 91) = W9; have hb9 : Below w8.heap.size w8 W9 := (hW9 ▸ (Below.refl w8.heap.size w8).alloc (Nat.le_refl _) _); have hn9 : W9.heap[w8.heap.size]? = some (.cells #[.string ⟨#[65]⟩, .int .i64 dk, .int .i64 dn, .slice dA2 dm2 dc2, .slice dA3 dm3 dc3, .slice dA4 dm4 dc4, .string ⟨#[66]⟩, .int .i64 fk, .int .i64 fn, .slice fA2 fm2 fc2, .slice fA3 fm3 fc3, .slice fA4 fm4 fc4] 91 (0, 0)) := (hW9 ▸ heap_alloc_new w8 _); have hs9 : W9.heap.size = w8.heap.size + 1 := (by rw [← hW9]; simp); have HB9 := Lib.hid (HB8.out.trans (hb9.mono HB8.out.size)); refine (dictC aE (fun g => g < W9.heap.size) W9 (some ⟨w8.heap.size, 0, none⟩) 2 ⟨by decide, fun _ => ⟨w8.heap.size, 0, rfl, by omega, (by
        unfold EnsR
        refine ⟨⟨_, _, _, _, _, cell_of_row _ _ 0 _ _ (0, 0) hn9, cell_of_row _ _ 1 _ _ (0, 0) hn9, cell_of_row _ _ 2 _ _ (0, 0) hn9, cell_of_row _ _ 3 _ _ (0, 0) hn9, cell_of_row _ _ 4 _ _ (0, 0) hn9, cell_of_row _ _ 5 _ _ (0, 0) hn9, HX5.out.to (fun g hg => hg.2) ((HB57.out.trans (HB78.out.mono HB57.out.size)).trans (hb9.mono (Nat.le_trans HB57.out.size HB78.out.size))) (fun _ h => h)⟩, ?_⟩
        unfold EnsR
        refine ⟨⟨_, _, _, _, _, cell_of_row _ _ 6 _ _ (0, 0) hn9, cell_of_row _ _ 7 _ _ (0, 0) hn9, cell_of_row _ _ 8 _ _ (0, 0) hn9, cell_of_row _ _ 9 _ _ (0, 0) hn9, cell_of_row _ _ 10 _ _ (0, 0) hn9, cell_of_row _ _ 11 _ _ (0, 0) hn9, HX8.out.to (fun g hg => hg.2) hb9 (fun _ h => h)⟩, ?_⟩
        unfold EnsR
        trivial)⟩⟩ (fun _ h => h) aE_ok (by decide)).mono ?_; rw [aE_dict]; (rintro r w10 ⟨d0, d1, d2, d3, d4, rfl, hx10, hb10⟩); (obtain ⟨gk, gn, gA2, gm2, gc2, gA3, gm3, gc3, gA4, gm4, gc4, rfl, rfl, rfl, rfl, rfl⟩ := hx10.form); have HX10 := Lib.hid hx10; have HB10 := Lib.hid (HB9.out.trans (hb10.mono HB9.out.size)); clear hx10 hb10 hb9 hn9 hs9)
    | (go_at_call 12; have hv := pVal_yes (x := aD) (HX10.out.to (fun g hg => hg.2) (Below.refl _ _) (fun _ h => h)) (HT.out.below HB10.out (Nat.le_refl _)) aD_ok.1 aD_ok.2 aD_may (by decide) (by rw [aD_pr]; decide); rw [aD_pr] at hv; refine hv.mono ?_; clear hv; (rintro r w11 ⟨v11, rfl, hm11, hb11⟩); obtain ⟨A11, c11, rfl, hy11⟩ := hm11.byt; have hcv : (convert 23 9 (.slice A11 30 c11)).run Tryz.prog w11 = .ok (.string ⟨#[60, 60, 47, 65, 32, 91, 49, 32, 49, 46, 53, 32, 47, 120, 35, 50, 48, 121, 93, 47, 66, 32, 60, 54, 49, 50, 57, 62, 62, 62]⟩) w11 := conv_s13 hy11 ⟨#[60, 60, 47, 65, 32, 91, 49, 32, 49, 46, 53, 32, 47, 120, 35, 50, 48, 121, 93, 47, 66, 32, 60, 54, 49, 50, 57, 62, 62, 62]⟩ rfl; have HB11 := Lib.hid (HB10.out.trans (hb11.mono HB10.out.size)); clear hm11 hb11 hy11))
  go_ret
  exact ⟨rfl, HB11.out⟩
end
end Go.Proofs.YtliieeagbpmcgaaGreatDoor
