/- Contracts of functions that the law calls, and what they lean on (a part). -/
import Derived.Test.YtliieeagbpmcgaaDoorPu46
namespace Go.Proofs.YtliieeagbpmcgaaDoor
section
open Go.RowKit
set_option linter.unusedVariables false
set_option maxRecDepth 100000
theorem bytS_byt {w : World} {S : Nat → Prop} {A : Option Addr} {n c B : Nat} {zs : List Int} (h : BytS w S A n c zs) (hS : ∀ g, S g → g < B) : Byt w B A n c zs :=
  ⟨h.1, h.2.1.1, h.2.2.1, fun h0 => by
    obtain ⟨g, o, e, hg, hc⟩ := h.2.2.2 h0
    exact ⟨g, o, e, hS g hg, hc⟩⟩
theorem conv_s13 {W : World} {B n c : Nat} {A : Option Addr} {zs : List Int} (hb : Byt W B A n c zs) (s : ByteArray) (hs : strOfNums zs = s) : (convert 22 9 (.slice A n c)).run Tryd.prog W = .ok (.string s) W := by
  subst hs
  exact hb.inn.convert (P := Tryd.prog) hb.len c 22 5 9 Tryd.underlying22 Tryd.underlying5 Tryd.underlying9
theorem strZ_of13 (zs : List Int) (h : ∀ z ∈ zs, 0 ≤ z ∧ z < 256) : strZ (strOfNums zs) = zs := by
  unfold strZ
  rw [strOfNums_data, List.map_map]
  refine (List.map_congr_left fun z hz => ?_).trans (List.map_id _)
  have := h z hz
  simp
  omega
set_option maxHeartbeats 4000000 in
theorem pval_null {w : World} {S : Nat → Prop} {base p : Nat} {v : Value} {P : List Int} {k : Int} (hk : ¬ (k = 1 ∨ k = 2 ∨ k = 3 ∨ k = 4 ∨ k = 5 ∨ k = 9 ∨ k = 6 ∨ k = 7)) (n : Int) (A2 A3 A4 : Option Addr) (m2 d2 m3 d3 m4 d4 : Nat) (hS : ∀ g, S g → g < base) (hbase : base ≤ w.heap.size) (ht : TabB base w) (hm : Mine w base v p P) (hn : -9223372036854775808 ≤ n ∧ n ≤ 9223372036854775807) (hp : p ≤ 10000000000000) :
    Calls Tryd.prog 16 #[v, .agg #[.int .i64 k, .int .i64 n, .slice A2 m2 d2, .slice A3 m3 d3, .slice A4 m4 d4]] w (GrP w base p P ([110, 117, 108, 108])) := by
  have hb1 := (Below.refl w.heap.size w).alloc (Nat.le_refl _) (.cells #[.int .i64 k, .int .i64 n, .slice A2 m2 d2, .slice A3 m3 d3, .slice A4 m4 d4] 26)
  have hnew := heap_alloc_new w (.cells #[.int .i64 k, .int .i64 n, .slice A2 m2 d2, .slice A3 m3 d3, .slice A4 m4 d4] 26)
  obtain ⟨W1, hW1⟩ : ∃ W1, w.alloc (.cells #[.int .i64 k, .int .i64 n, .slice A2 m2 d2, .slice A3 m3 d3, .slice A4 m4 d4] 26) = W1 := ⟨_, rfl⟩
  rw [hW1] at hb1 hnew
  have y0 : W1.cell? ⟨w.heap.size, 0, none⟩ = some (.int .i64 k) := cell_of_row _ _ 0 _ _ (0, 0) hnew
  have y1 : W1.cell? ⟨w.heap.size, 1, none⟩ = some (.int .i64 n) := cell_of_row _ _ 1 _ _ (0, 0) hnew
  have y2 : W1.cell? ⟨w.heap.size, 2, none⟩ = some (.slice A2 m2 d2) := cell_of_row _ _ 2 _ _ (0, 0) hnew
  have y3 : W1.cell? ⟨w.heap.size, 3, none⟩ = some (.slice A3 m3 d3) := cell_of_row _ _ 3 _ _ (0, 0) hnew
  have y4 : W1.cell? ⟨w.heap.size, 4, none⟩ = some (.slice A4 m4 d4) := cell_of_row _ _ 4 _ _ (0, 0) hnew
  have hmk := hm.kept hb1
  have HB0 := Lib.hid (hb1.mono hbase)
  have hbase1 : base ≤ W1.heap.size := Nat.le_trans hbase hb1.size
  have ht1 := ht.below HB0.out
  have HO := Lib.hid (And.intro hm.owned hbase1)
  have HA := Lib.hid (paddS hmk hbase1 ⟨#[110, 117, 108, 108]⟩ (by have : (⟨#[110, 117, 108, 108]⟩ : ByteArray).size = 4 := rfl; omega))
  have h1 : (k == 1) = false := beq_eq_false_iff_ne.2 (by omega)
  have h2 : (k == 2) = false := beq_eq_false_iff_ne.2 (by omega)
  have h3 : (k == 3) = false := beq_eq_false_iff_ne.2 (by omega)
  have h4 : (k == 4) = false := beq_eq_false_iff_ne.2 (by omega)
  have h5 : (k == 5) = false := beq_eq_false_iff_ne.2 (by omega)
  have h9 : (k == 9) = false := beq_eq_false_iff_ne.2 (by omega)
  have h6 : (k == 6) = false := beq_eq_false_iff_ne.2 (by omega)
  have h7 : (k == 7) = false := beq_eq_false_iff_ne.2 (by omega)
  obtain ⟨A0, c0, hv0, _⟩ := hm.byt
  subst hv0
  clear hm hmk hb1 hnew hbase hbase1 ht ht1 hS hn hk
  go_enter Tryd.func16, Tryd.ntmps16
  go_wp2_with (first
    | (go_at_call 23; refine (HA.out).mono ?_; (rintro r w6 ⟨v6, rfl, hm6, hk6⟩); have HM6 := Lib.hid hm6; have HB6 := Lib.hid (hk6.below HO.out.2 HO.out.1); clear hm6 hk6))
  go_ret
  exact ⟨_, rfl, HM6.out, HB0.out.trans HB6.out⟩
set_option maxHeartbeats 4000000 in
theorem pval_bool {w : World} {S : Nat → Prop} {base p : Nat} {v : Value} {P : List Int}  (n : Int) (A2 A3 A4 : Option Addr) (m2 d2 m3 d3 m4 d4 : Nat) (hS : ∀ g, S g → g < base) (hbase : base ≤ w.heap.size) (ht : TabB base w) (hm : Mine w base v p P) (hn : -9223372036854775808 ≤ n ∧ n ≤ 9223372036854775807) (hp : p ≤ 10000000000000) :
    Calls Tryd.prog 16 #[v, .agg #[.int .i64 1, .int .i64 n, .slice A2 m2 d2, .slice A3 m3 d3, .slice A4 m4 d4]] w (GrP w base p P (if n = 1 then [116, 114, 117, 101] else [102, 97, 108, 115, 101])) := by
  have hb1 := (Below.refl w.heap.size w).alloc (Nat.le_refl _) (.cells #[.int .i64 1, .int .i64 n, .slice A2 m2 d2, .slice A3 m3 d3, .slice A4 m4 d4] 26)
  have hnew := heap_alloc_new w (.cells #[.int .i64 1, .int .i64 n, .slice A2 m2 d2, .slice A3 m3 d3, .slice A4 m4 d4] 26)
  obtain ⟨W1, hW1⟩ : ∃ W1, w.alloc (.cells #[.int .i64 1, .int .i64 n, .slice A2 m2 d2, .slice A3 m3 d3, .slice A4 m4 d4] 26) = W1 := ⟨_, rfl⟩
  rw [hW1] at hb1 hnew
  have y0 : W1.cell? ⟨w.heap.size, 0, none⟩ = some (.int .i64 1) := cell_of_row _ _ 0 _ _ (0, 0) hnew
  have y1 : W1.cell? ⟨w.heap.size, 1, none⟩ = some (.int .i64 n) := cell_of_row _ _ 1 _ _ (0, 0) hnew
  have y2 : W1.cell? ⟨w.heap.size, 2, none⟩ = some (.slice A2 m2 d2) := cell_of_row _ _ 2 _ _ (0, 0) hnew
  have y3 : W1.cell? ⟨w.heap.size, 3, none⟩ = some (.slice A3 m3 d3) := cell_of_row _ _ 3 _ _ (0, 0) hnew
  have y4 : W1.cell? ⟨w.heap.size, 4, none⟩ = some (.slice A4 m4 d4) := cell_of_row _ _ 4 _ _ (0, 0) hnew
  have hmk := hm.kept hb1
  have HB0 := Lib.hid (hb1.mono hbase)
  have hbase1 : base ≤ W1.heap.size := Nat.le_trans hbase hb1.size
  have ht1 := ht.below HB0.out
  have HO := Lib.hid (And.intro hm.owned hbase1)
  have HTR := Lib.hid (fun W => truC n W)
  obtain ⟨T, hT⟩ : ∃ T : ByteArray, (if n = 1 then ⟨#[116, 114, 117, 101]⟩ else ⟨#[102, 97, 108, 115, 101]⟩) = T := ⟨_, rfl⟩
  rw [hT] at HTR
  have hz : strZ T = if n = 1 then [116, 114, 117, 101] else [102, 97, 108, 115, 101] := by rw [← hT]; split <;> rfl
  have hsz : T.size = (strZ T).length := (strZ_len T).symm
  rw [← hz]
  have hle : T.size ≤ 5 := by rw [hsz, hz]; split <;> simp
  have HA := Lib.hid (paddS hmk hbase1 T (by omega))
  rw [hsz] at HA
  obtain ⟨A0, c0, hv0, _⟩ := hm.byt
  subst hv0
  clear hm hmk hb1 hnew hbase hbase1 ht ht1 hS hn hT hz hsz hle
  go_enter Tryd.func16, Tryd.ntmps16
  go_wp2_with (first
    | (go_at_call 24; refine (HTR.out _).mono ?_; (rintro r w5 ⟨rfl, rfl⟩); skip)
    | (go_at_call 23; refine (HA.out).mono ?_; (rintro r w6 ⟨v6, rfl, hm6, hk6⟩); have HM6 := Lib.hid hm6; have HB6 := Lib.hid (hk6.below HO.out.2 HO.out.1); clear hm6 hk6))
  go_ret
  exact ⟨_, rfl, HM6.out, HB0.out.trans HB6.out⟩
set_option maxHeartbeats 4000000 in
theorem pval_int {w : World} {S : Nat → Prop} {base p : Nat} {v : Value} {P : List Int}  (n : Int) (A2 A3 A4 : Option Addr) (m2 d2 m3 d3 m4 d4 : Nat) (hS : ∀ g, S g → g < base) (hbase : base ≤ w.heap.size) (ht : TabB base w) (hm : Mine w base v p P) (hn : -9223372036854775808 ≤ n ∧ n ≤ 9223372036854775807) (hp : p ≤ 10000000000000) :
    Calls Tryd.prog 16 #[v, .agg #[.int .i64 2, .int .i64 n, .slice A2 m2 d2, .slice A3 m3 d3, .slice A4 m4 d4]] w (GrP w base p P (nuZ n true)) := by
  have hb1 := (Below.refl w.heap.size w).alloc (Nat.le_refl _) (.cells #[.int .i64 2, .int .i64 n, .slice A2 m2 d2, .slice A3 m3 d3, .slice A4 m4 d4] 26)
  have hnew := heap_alloc_new w (.cells #[.int .i64 2, .int .i64 n, .slice A2 m2 d2, .slice A3 m3 d3, .slice A4 m4 d4] 26)
  obtain ⟨W1, hW1⟩ : ∃ W1, w.alloc (.cells #[.int .i64 2, .int .i64 n, .slice A2 m2 d2, .slice A3 m3 d3, .slice A4 m4 d4] 26) = W1 := ⟨_, rfl⟩
  rw [hW1] at hb1 hnew
  have y0 : W1.cell? ⟨w.heap.size, 0, none⟩ = some (.int .i64 2) := cell_of_row _ _ 0 _ _ (0, 0) hnew
  have y1 : W1.cell? ⟨w.heap.size, 1, none⟩ = some (.int .i64 n) := cell_of_row _ _ 1 _ _ (0, 0) hnew
  have y2 : W1.cell? ⟨w.heap.size, 2, none⟩ = some (.slice A2 m2 d2) := cell_of_row _ _ 2 _ _ (0, 0) hnew
  have y3 : W1.cell? ⟨w.heap.size, 3, none⟩ = some (.slice A3 m3 d3) := cell_of_row _ _ 3 _ _ (0, 0) hnew
  have y4 : W1.cell? ⟨w.heap.size, 4, none⟩ = some (.slice A4 m4 d4) := cell_of_row _ _ 4 _ _ (0, 0) hnew
  have hmk := hm.kept hb1
  have HB0 := Lib.hid (hb1.mono hbase)
  have hbase1 : base ≤ W1.heap.size := Nat.le_trans hbase hb1.size
  have ht1 := ht.below HB0.out
  have HO := Lib.hid (And.intro hm.owned hbase1)
  have HN := Lib.hid (pnum hmk hbase1 ht1 n true hn.1 hn.2 (by omega))
  obtain ⟨A0, c0, hv0, _⟩ := hm.byt
  subst hv0
  clear hm hmk hb1 hnew hbase hbase1 ht ht1 hS hn
  go_enter Tryd.func16, Tryd.ntmps16
  go_wp2_with (first
    | (go_at_call 25; refine (HN.out).mono ?_; (rintro r w6 ⟨v6, rfl, hm6, hb6⟩); have HM6 := Lib.hid hm6; have HB6 := Lib.hid hb6; clear hm6 hb6))
  go_ret
  exact ⟨_, rfl, HM6.out, HB0.out.trans HB6.out⟩
set_option maxHeartbeats 4000000 in
theorem pval_real {w : World} {S : Nat → Prop} {base p : Nat} {v : Value} {P : List Int}  (n : Int) (A2 A3 A4 : Option Addr) (m2 d2 m3 d3 m4 d4 : Nat) (hS : ∀ g, S g → g < base) (hbase : base ≤ w.heap.size) (ht : TabB base w) (hm : Mine w base v p P) (hn : -9223372036854775808 ≤ n ∧ n ≤ 9223372036854775807) (hp : p ≤ 10000000000000) :
    Calls Tryd.prog 16 #[v, .agg #[.int .i64 3, .int .i64 n, .slice A2 m2 d2, .slice A3 m3 d3, .slice A4 m4 d4]] w (GrP w base p P (nuZ n false)) := by
  have hb1 := (Below.refl w.heap.size w).alloc (Nat.le_refl _) (.cells #[.int .i64 3, .int .i64 n, .slice A2 m2 d2, .slice A3 m3 d3, .slice A4 m4 d4] 26)
  have hnew := heap_alloc_new w (.cells #[.int .i64 3, .int .i64 n, .slice A2 m2 d2, .slice A3 m3 d3, .slice A4 m4 d4] 26)
  obtain ⟨W1, hW1⟩ : ∃ W1, w.alloc (.cells #[.int .i64 3, .int .i64 n, .slice A2 m2 d2, .slice A3 m3 d3, .slice A4 m4 d4] 26) = W1 := ⟨_, rfl⟩
  rw [hW1] at hb1 hnew
  have y0 : W1.cell? ⟨w.heap.size, 0, none⟩ = some (.int .i64 3) := cell_of_row _ _ 0 _ _ (0, 0) hnew
  have y1 : W1.cell? ⟨w.heap.size, 1, none⟩ = some (.int .i64 n) := cell_of_row _ _ 1 _ _ (0, 0) hnew
  have y2 : W1.cell? ⟨w.heap.size, 2, none⟩ = some (.slice A2 m2 d2) := cell_of_row _ _ 2 _ _ (0, 0) hnew
  have y3 : W1.cell? ⟨w.heap.size, 3, none⟩ = some (.slice A3 m3 d3) := cell_of_row _ _ 3 _ _ (0, 0) hnew
  have y4 : W1.cell? ⟨w.heap.size, 4, none⟩ = some (.slice A4 m4 d4) := cell_of_row _ _ 4 _ _ (0, 0) hnew
  have hmk := hm.kept hb1
  have HB0 := Lib.hid (hb1.mono hbase)
  have hbase1 : base ≤ W1.heap.size := Nat.le_trans hbase hb1.size
  have ht1 := ht.below HB0.out
  have HO := Lib.hid (And.intro hm.owned hbase1)
  have HN := Lib.hid (pnum hmk hbase1 ht1 n false hn.1 hn.2 (by omega))
  obtain ⟨A0, c0, hv0, _⟩ := hm.byt
  subst hv0
  clear hm hmk hb1 hnew hbase hbase1 ht ht1 hS hn
  go_enter Tryd.func16, Tryd.ntmps16
  go_wp2_with (first
    | (go_at_call 25; refine (HN.out).mono ?_; (rintro r w6 ⟨v6, rfl, hm6, hb6⟩); have HM6 := Lib.hid hm6; have HB6 := Lib.hid hb6; clear hm6 hb6))
  go_ret
  exact ⟨_, rfl, HM6.out, HB0.out.trans HB6.out⟩
set_option maxHeartbeats 4000000 in
theorem pval_ref {w : World} {S : Nat → Prop} {base p : Nat} {v : Value} {P : List Int}  (n : Int) (A2 A3 A4 : Option Addr) (m2 d2 m3 d3 m4 d4 : Nat) (hS : ∀ g, S g → g < base) (hbase : base ≤ w.heap.size) (ht : TabB base w) (hm : Mine w base v p P) (hn : -9223372036854775808 ≤ n ∧ n ≤ 9223372036854775807) (hp : p ≤ 10000000000000) :
    Calls Tryd.prog 16 #[v, .agg #[.int .i64 9, .int .i64 n, .slice A2 m2 d2, .slice A3 m3 d3, .slice A4 m4 d4]] w (GrP w base p P (nuZ n true ++ [32, 48, 32, 82])) := by
  have hb1 := (Below.refl w.heap.size w).alloc (Nat.le_refl _) (.cells #[.int .i64 9, .int .i64 n, .slice A2 m2 d2, .slice A3 m3 d3, .slice A4 m4 d4] 26)
  have hnew := heap_alloc_new w (.cells #[.int .i64 9, .int .i64 n, .slice A2 m2 d2, .slice A3 m3 d3, .slice A4 m4 d4] 26)
  obtain ⟨W1, hW1⟩ : ∃ W1, w.alloc (.cells #[.int .i64 9, .int .i64 n, .slice A2 m2 d2, .slice A3 m3 d3, .slice A4 m4 d4] 26) = W1 := ⟨_, rfl⟩
  rw [hW1] at hb1 hnew
  have y0 : W1.cell? ⟨w.heap.size, 0, none⟩ = some (.int .i64 9) := cell_of_row _ _ 0 _ _ (0, 0) hnew
  have y1 : W1.cell? ⟨w.heap.size, 1, none⟩ = some (.int .i64 n) := cell_of_row _ _ 1 _ _ (0, 0) hnew
  have y2 : W1.cell? ⟨w.heap.size, 2, none⟩ = some (.slice A2 m2 d2) := cell_of_row _ _ 2 _ _ (0, 0) hnew
  have y3 : W1.cell? ⟨w.heap.size, 3, none⟩ = some (.slice A3 m3 d3) := cell_of_row _ _ 3 _ _ (0, 0) hnew
  have y4 : W1.cell? ⟨w.heap.size, 4, none⟩ = some (.slice A4 m4 d4) := cell_of_row _ _ 4 _ _ (0, 0) hnew
  have hmk := hm.kept hb1
  have HB0 := Lib.hid (hb1.mono hbase)
  have hbase1 : base ≤ W1.heap.size := Nat.le_trans hbase hb1.size
  have ht1 := ht.below HB0.out
  have HO := Lib.hid (And.intro hm.owned hbase1)
  have HN := Lib.hid (pnum hmk hbase1 ht1 n true hn.1 hn.2 (by omega))
  have HNL := Lib.hid (nuZ_len n true)
  obtain ⟨R, hR⟩ : ∃ R, nuZ n true = R := ⟨_, rfl⟩
  rw [hR] at HN HNL ⊢
  obtain ⟨A0, c0, hv0, _⟩ := hm.byt
  subst hv0
  clear hm hmk hb1 hnew hbase hbase1 ht ht1 hS hn hR
  go_enter Tryd.func16, Tryd.ntmps16
  go_wp2_with (first
    | (go_at_call 25; refine (HN.out).mono ?_; (rintro r w5 ⟨v5, rfl, hm5, hb5⟩); have HB5 := Lib.hid (HB0.out.trans hb5); have HA := Lib.hid (paddS hm5 (Nat.le_trans HO.out.2 hb5.size) ⟨#[32, 48, 32, 82]⟩ (by have : (⟨#[32, 48, 32, 82]⟩ : ByteArray).size = 4 := rfl; have := HNL.out; omega)); have HO5 := Lib.hid (And.intro hm5.owned hb5.size); clear hm5 hb5)
    | (go_at_call 23; refine (HA.out).mono ?_; (rintro r w6 ⟨v6, rfl, hm6, hk6⟩); have HM6 := Lib.hid hm6; have HB6 := Lib.hid (hk6.below (Nat.le_trans HO.out.2 HO5.out.2) HO5.out.1); clear hm6 hk6))
  go_ret
  refine ⟨_, rfl, ?_, HB5.out.trans HB6.out⟩
  have h := HM6.out
  rw [show strZ ⟨#[32, 48, 32, 82]⟩ = [32, 48, 32, 82] from rfl, List.append_assoc] at h
  rw [List.length_append, ← Nat.add_assoc]
  exact h
set_option maxHeartbeats 4000000 in
theorem pval_str {w : World} {S : Nat → Prop} {base p : Nat} {v : Value} {P : List Int}  (n : Int) (A2 A3 A4 : Option Addr) (m2 d2 m3 d3 m4 d4 : Nat) {b : List Int} (hb : BytS w S A2 m2 d2 b) (hlen : b.length ≤ 32767) (hS : ∀ g, S g → g < base) (hbase : base ≤ w.heap.size) (ht : TabB base w) (hm : Mine w base v p P) (hn : -9223372036854775808 ≤ n ∧ n ≤ 9223372036854775807) (hp : p ≤ 10000000000000) :
    Calls Tryd.prog 16 #[v, .agg #[.int .i64 4, .int .i64 n, .slice A2 m2 d2, .slice A3 m3 d3, .slice A4 m4 d4]] w (GrP w base p P (txS b)) := by
  have hb1 := (Below.refl w.heap.size w).alloc (Nat.le_refl _) (.cells #[.int .i64 4, .int .i64 n, .slice A2 m2 d2, .slice A3 m3 d3, .slice A4 m4 d4] 26)
  have hnew := heap_alloc_new w (.cells #[.int .i64 4, .int .i64 n, .slice A2 m2 d2, .slice A3 m3 d3, .slice A4 m4 d4] 26)
  obtain ⟨W1, hW1⟩ : ∃ W1, w.alloc (.cells #[.int .i64 4, .int .i64 n, .slice A2 m2 d2, .slice A3 m3 d3, .slice A4 m4 d4] 26) = W1 := ⟨_, rfl⟩
  rw [hW1] at hb1 hnew
  have y0 : W1.cell? ⟨w.heap.size, 0, none⟩ = some (.int .i64 4) := cell_of_row _ _ 0 _ _ (0, 0) hnew
  have y1 : W1.cell? ⟨w.heap.size, 1, none⟩ = some (.int .i64 n) := cell_of_row _ _ 1 _ _ (0, 0) hnew
  have y2 : W1.cell? ⟨w.heap.size, 2, none⟩ = some (.slice A2 m2 d2) := cell_of_row _ _ 2 _ _ (0, 0) hnew
  have y3 : W1.cell? ⟨w.heap.size, 3, none⟩ = some (.slice A3 m3 d3) := cell_of_row _ _ 3 _ _ (0, 0) hnew
  have y4 : W1.cell? ⟨w.heap.size, 4, none⟩ = some (.slice A4 m4 d4) := cell_of_row _ _ 4 _ _ (0, 0) hnew
  have hmk := hm.kept hb1
  have HB0 := Lib.hid (hb1.mono hbase)
  have hbase1 : base ≤ W1.heap.size := Nat.le_trans hbase hb1.size
  have ht1 := ht.below HB0.out
  have HO := Lib.hid (And.intro hm.owned hbase1)
  have hby1 : Byt W1 W1.heap.size A2 m2 d2 b := (bytS_byt (hb.keep (fun g hg => hb1.block g (Nat.lt_of_lt_of_le (hS g hg) hbase)) (fun _ h => h)) hS).more hbase1
  have hln := hb.1
  have HN := Lib.hid (pTx A2 m2 d2 b W1 hby1 (by omega))
  have hRl : (txS b).length ≤ 100000 := by have := txS_len b; omega
  obtain ⟨R, hR⟩ : ∃ R, txS b = R := ⟨_, rfl⟩
  rw [hR] at HN hRl ⊢
  have HMK := Lib.hid hmk
  have HRL := Lib.hid hRl
  obtain ⟨A0, c0, hv0, _⟩ := hm.byt
  subst hv0
  clear hm hmk hb1 hnew hbase hbase1 ht ht1 hS hn hR hby1 hb hlen hln hRl
  go_enter Tryd.func16, Tryd.ntmps16
  go_wp2_with (first
    | (go_at_call 27; refine (HN.out).mono ?_; (rintro r w5 ⟨v5, rfl, hm5, hb5⟩); obtain ⟨A5, c5, rfl, hy5⟩ := hm5.byt; have HB5 := Lib.hid hb5; have HO5 : Hid (∀ b o, 0 < R.length → A5 = some ⟨b, o, none⟩ → W1.heap.size ≤ b) := Lib.hid (fun b o h0 e => by subst e; exact hm5.owned b rfl); have HAD := Lib.hid (paddN (s := false) (.inl (HMK.out.kept hb5)) (Nat.le_trans HO.out.2 hb5.size) rfl [⟨A5, R.length, c5, R⟩] (fun q hq => by
        rw [List.mem_singleton] at hq
        subst hq
        exact ⟨hy5, fun h0 b o e e2 => by have h5 := HO5.out b o h0 e; have := HMK.out.lt _ e2; omega⟩) (by rw [flat1]; have := HRL.out; show p + R.length ≤ _; omega) (by simp)); clear hy5 hm5 hb5)
    | (go_at_call 26; refine (HAD.out).mono ?_; (rintro r w6 ⟨v6, rfl, hm6, hk6⟩); have HM6 := Lib.hid hm6.mine; have HB6 := Lib.hid (hk6.below (Nat.le_trans HO.out.2 HB5.out.size) (HMK.out.kept HB5.out).owned); clear hm6 hk6))
  go_ret
  refine ⟨_, rfl, ?_, HB0.out.trans ((HB5.out.mono HO.out.2).trans HB6.out)⟩
  have h := HM6.out
  rw [flat1] at h
  exact h
set_option maxHeartbeats 4000000 in
theorem pval_name {w : World} {S : Nat → Prop} {base p : Nat} {v : Value} {P : List Int}  (n : Int) (A2 A3 A4 : Option Addr) (m2 d2 m3 d3 m4 d4 : Nat) {b : List Int} (hb : BytS w S A2 m2 d2 b) (hlen : b.length ≤ 127) (hS : ∀ g, S g → g < base) (hbase : base ≤ w.heap.size) (ht : TabB base w) (hm : Mine w base v p P) (hn : -9223372036854775808 ≤ n ∧ n ≤ 9223372036854775807) (hp : p ≤ 10000000000000) :
    Calls Tryd.prog 16 #[v, .agg #[.int .i64 5, .int .i64 n, .slice A2 m2 d2, .slice A3 m3 d3, .slice A4 m4 d4]] w (GrP w base p P (47 :: nmS b)) := by
  have hb1 := (Below.refl w.heap.size w).alloc (Nat.le_refl _) (.cells #[.int .i64 5, .int .i64 n, .slice A2 m2 d2, .slice A3 m3 d3, .slice A4 m4 d4] 26)
  have hnew := heap_alloc_new w (.cells #[.int .i64 5, .int .i64 n, .slice A2 m2 d2, .slice A3 m3 d3, .slice A4 m4 d4] 26)
  obtain ⟨W1, hW1⟩ : ∃ W1, w.alloc (.cells #[.int .i64 5, .int .i64 n, .slice A2 m2 d2, .slice A3 m3 d3, .slice A4 m4 d4] 26) = W1 := ⟨_, rfl⟩
  rw [hW1] at hb1 hnew
  have y0 : W1.cell? ⟨w.heap.size, 0, none⟩ = some (.int .i64 5) := cell_of_row _ _ 0 _ _ (0, 0) hnew
  have y1 : W1.cell? ⟨w.heap.size, 1, none⟩ = some (.int .i64 n) := cell_of_row _ _ 1 _ _ (0, 0) hnew
  have y2 : W1.cell? ⟨w.heap.size, 2, none⟩ = some (.slice A2 m2 d2) := cell_of_row _ _ 2 _ _ (0, 0) hnew
  have y3 : W1.cell? ⟨w.heap.size, 3, none⟩ = some (.slice A3 m3 d3) := cell_of_row _ _ 3 _ _ (0, 0) hnew
  have y4 : W1.cell? ⟨w.heap.size, 4, none⟩ = some (.slice A4 m4 d4) := cell_of_row _ _ 4 _ _ (0, 0) hnew
  have hmk := hm.kept hb1
  have HB0 := Lib.hid (hb1.mono hbase)
  have hbase1 : base ≤ W1.heap.size := Nat.le_trans hbase hb1.size
  have ht1 := ht.below HB0.out
  have HO := Lib.hid (And.intro hm.owned hbase1)
  have hby1 : Byt W1 W1.heap.size A2 m2 d2 b := (bytS_byt (hb.keep (fun g hg => hb1.block g (Nat.lt_of_lt_of_le (hS g hg) hbase)) (fun _ h => h)) hS).more hbase1
  have hln := hb.1
  obtain ⟨s, hs⟩ : ∃ s, strOfNums b = s := ⟨_, rfl⟩
  have hcv := conv_s13 hby1 s hs
  have hsz : strZ s = b := by rw [← hs]; exact strZ_of13 b hb.2.2.1
  have HN := Lib.hid (pNm s W1 (by rw [← strZ_len, hsz]; omega))
  rw [hsz] at HN
  have hRl : (47 :: nmS b).length ≤ 100000 := by have := nmS_len13 b; rw [List.length_cons]; omega
  obtain ⟨R, hR⟩ : ∃ R, 47 :: nmS b = R := ⟨_, rfl⟩
  rw [hR] at HN hRl ⊢
  have HMK := Lib.hid hmk
  have HRL := Lib.hid hRl
  obtain ⟨A0, c0, hv0, _⟩ := hm.byt
  subst hv0
  clear hm hmk hb1 hnew hbase hbase1 ht ht1 hS hn hR hby1 hb hlen hln hs hsz hRl
  go_enter Tryd.func16, Tryd.ntmps16
  go_wp2_with (first
    | (go_at_call 28; refine (HN.out).mono ?_; (rintro r w5 ⟨v5, rfl, hm5, hb5⟩); obtain ⟨A5, c5, rfl, hy5⟩ := hm5.byt; have HB5 := Lib.hid hb5; have HO5 : Hid (∀ b o, 0 < R.length → A5 = some ⟨b, o, none⟩ → W1.heap.size ≤ b) := Lib.hid (fun b o h0 e => by subst e; exact hm5.owned b rfl); have HAD := Lib.hid (paddN (s := false) (.inl (HMK.out.kept hb5)) (Nat.le_trans HO.out.2 hb5.size) rfl [⟨A5, R.length, c5, R⟩] (fun q hq => by
        rw [List.mem_singleton] at hq
        subst hq
        exact ⟨hy5, fun h0 b o e e2 => by have h5 := HO5.out b o h0 e; have := HMK.out.lt _ e2; omega⟩) (by rw [flat1]; have := HRL.out; show p + R.length ≤ _; omega) (by simp)); clear hy5 hm5 hb5)
    | (go_at_call 26; refine (HAD.out).mono ?_; (rintro r w6 ⟨v6, rfl, hm6, hk6⟩); have HM6 := Lib.hid hm6.mine; have HB6 := Lib.hid (hk6.below (Nat.le_trans HO.out.2 HB5.out.size) (HMK.out.kept HB5.out).owned); clear hm6 hk6))
  go_ret
  refine ⟨_, rfl, ?_, HB0.out.trans ((HB5.out.mono HO.out.2).trans HB6.out)⟩
  have h := HM6.out
  rw [flat1] at h
  exact h
set_option maxHeartbeats 4000000 in
theorem pval_arr {w : World} {S : Nat → Prop} {base p : Nat} {v : Value} {P : List Int}  (n : Int) (A2 A3 A4 : Option Addr) (m2 d2 m3 d3 m4 d4 : Nat) {N : Nat} (IH : ValC N) (l : Obs) (hl : l.sz ≤ N) (hme : m3 = l.len) (hlc : l.len ≤ d3 ∧ d3 ≤ 9223372036854775807) (hl2 : 0 < l.len → ∃ g o, A3 = some ⟨g, o, none⟩ ∧ S g ∧ ObsR w S l g o) (hf : fnL l) (hb : p + (prL l true).length + 2 ≤ 10000000000000) (hS : ∀ g, S g → g < base) (hbase : base ≤ w.heap.size) (ht : TabB base w) (hm : Mine w base v p P) (hn : -9223372036854775808 ≤ n ∧ n ≤ 9223372036854775807) (hp : p ≤ 10000000000000) :
    Calls Tryd.prog 16 #[v, .agg #[.int .i64 6, .int .i64 n, .slice A2 m2 d2, .slice A3 m3 d3, .slice A4 m4 d4]] w (GrP w base p P ([91] ++ prL l true ++ [93])) := by
  have hb1 := (Below.refl w.heap.size w).alloc (Nat.le_refl _) (.cells #[.int .i64 6, .int .i64 n, .slice A2 m2 d2, .slice A3 m3 d3, .slice A4 m4 d4] 26)
  have hnew := heap_alloc_new w (.cells #[.int .i64 6, .int .i64 n, .slice A2 m2 d2, .slice A3 m3 d3, .slice A4 m4 d4] 26)
  obtain ⟨W1, hW1⟩ : ∃ W1, w.alloc (.cells #[.int .i64 6, .int .i64 n, .slice A2 m2 d2, .slice A3 m3 d3, .slice A4 m4 d4] 26) = W1 := ⟨_, rfl⟩
  rw [hW1] at hb1 hnew
  have y0 : W1.cell? ⟨w.heap.size, 0, none⟩ = some (.int .i64 6) := cell_of_row _ _ 0 _ _ (0, 0) hnew
  have y1 : W1.cell? ⟨w.heap.size, 1, none⟩ = some (.int .i64 n) := cell_of_row _ _ 1 _ _ (0, 0) hnew
  have y2 : W1.cell? ⟨w.heap.size, 2, none⟩ = some (.slice A2 m2 d2) := cell_of_row _ _ 2 _ _ (0, 0) hnew
  have y3 : W1.cell? ⟨w.heap.size, 3, none⟩ = some (.slice A3 m3 d3) := cell_of_row _ _ 3 _ _ (0, 0) hnew
  have y4 : W1.cell? ⟨w.heap.size, 4, none⟩ = some (.slice A4 m4 d4) := cell_of_row _ _ 4 _ _ (0, 0) hnew
  have hmk := hm.kept hb1
  have HB0 := Lib.hid (hb1.mono hbase)
  have hbase1 : base ≤ W1.heap.size := Nat.le_trans hbase hb1.size
  have ht1 := ht.below HB0.out
  have HO := Lib.hid (And.intro hm.owned hbase1)
  subst hme
  have HN := Lib.hid (pitems IH l hl hlc (w := W1) (fun h0 => by
    obtain ⟨g, o, e, hg, hx⟩ := hl2 h0
    exact ⟨g, o, e, hg, ObsR.keep (fun g hg => hb1.block g (Nat.lt_of_lt_of_le (hS g hg) hbase)) (fun _ h => h) l g o hg hg hx⟩) hS hbase1 ht1 hmk hf hb)
  obtain ⟨R, hR⟩ : ∃ R, [91] ++ prL l true ++ [93] = R := ⟨_, rfl⟩
  rw [hR] at HN ⊢
  obtain ⟨A0, c0, hv0, _⟩ := hm.byt
  subst hv0
  clear hm hmk hb1 hnew hbase hbase1 ht ht1 hS hn hR IH hl hlc hl2 hf hb
  go_enter Tryd.func16, Tryd.ntmps16
  go_wp2_with (first
    | (go_at_call 29; refine (HN.out).mono ?_; (rintro r w6 ⟨v6, rfl, hm6, hb6⟩); have HM6 := Lib.hid hm6; have HB6 := Lib.hid hb6; clear hm6 hb6))
  go_ret
  exact ⟨_, rfl, HM6.out, HB0.out.trans HB6.out⟩
set_option maxHeartbeats 4000000 in
theorem pval_dict {w : World} {S : Nat → Prop} {base p : Nat} {v : Value} {P : List Int}  (n : Int) (A2 A3 A4 : Option Addr) (m2 d2 m3 d3 m4 d4 : Nat) {N : Nat} (IH : ValC N) (l : Ens) (hl : l.sz ≤ N) (hme : m4 = l.len) (hlc : l.len ≤ d4 ∧ d4 ≤ 9223372036854775807) (hl2 : 0 < l.len → ∃ g o, A4 = some ⟨g, o, none⟩ ∧ S g ∧ EnsR w S l g o) (hf : fnE l) (hb : p + (prE l).length + 4 ≤ 10000000000000) (hS : ∀ g, S g → g < base) (hbase : base ≤ w.heap.size) (ht : TabB base w) (hm : Mine w base v p P) (hn : -9223372036854775808 ≤ n ∧ n ≤ 9223372036854775807) (hp : p ≤ 10000000000000) :
    Calls Tryd.prog 16 #[v, .agg #[.int .i64 7, .int .i64 n, .slice A2 m2 d2, .slice A3 m3 d3, .slice A4 m4 d4]] w (GrP w base p P ([60, 60] ++ prE l ++ [62, 62])) := by
  have hb1 := (Below.refl w.heap.size w).alloc (Nat.le_refl _) (.cells #[.int .i64 7, .int .i64 n, .slice A2 m2 d2, .slice A3 m3 d3, .slice A4 m4 d4] 26)
  have hnew := heap_alloc_new w (.cells #[.int .i64 7, .int .i64 n, .slice A2 m2 d2, .slice A3 m3 d3, .slice A4 m4 d4] 26)
  obtain ⟨W1, hW1⟩ : ∃ W1, w.alloc (.cells #[.int .i64 7, .int .i64 n, .slice A2 m2 d2, .slice A3 m3 d3, .slice A4 m4 d4] 26) = W1 := ⟨_, rfl⟩
  rw [hW1] at hb1 hnew
  have y0 : W1.cell? ⟨w.heap.size, 0, none⟩ = some (.int .i64 7) := cell_of_row _ _ 0 _ _ (0, 0) hnew
  have y1 : W1.cell? ⟨w.heap.size, 1, none⟩ = some (.int .i64 n) := cell_of_row _ _ 1 _ _ (0, 0) hnew
  have y2 : W1.cell? ⟨w.heap.size, 2, none⟩ = some (.slice A2 m2 d2) := cell_of_row _ _ 2 _ _ (0, 0) hnew
  have y3 : W1.cell? ⟨w.heap.size, 3, none⟩ = some (.slice A3 m3 d3) := cell_of_row _ _ 3 _ _ (0, 0) hnew
  have y4 : W1.cell? ⟨w.heap.size, 4, none⟩ = some (.slice A4 m4 d4) := cell_of_row _ _ 4 _ _ (0, 0) hnew
  have hmk := hm.kept hb1
  have HB0 := Lib.hid (hb1.mono hbase)
  have hbase1 : base ≤ W1.heap.size := Nat.le_trans hbase hb1.size
  have ht1 := ht.below HB0.out
  have HO := Lib.hid (And.intro hm.owned hbase1)
  subst hme
  have HN := Lib.hid (pentries IH l hl hlc (w := W1) (fun h0 => by
    obtain ⟨g, o, e, hg, hx⟩ := hl2 h0
    exact ⟨g, o, e, hg, EnsR.keep (fun g hg => hb1.block g (Nat.lt_of_lt_of_le (hS g hg) hbase)) (fun _ h => h) l g o hg hg hx⟩) hS hbase1 ht1 hmk hf hb)
  obtain ⟨R, hR⟩ : ∃ R, [60, 60] ++ prE l ++ [62, 62] = R := ⟨_, rfl⟩
  rw [hR] at HN ⊢
  obtain ⟨A0, c0, hv0, _⟩ := hm.byt
  subst hv0
  clear hm hmk hb1 hnew hbase hbase1 ht ht1 hS hn hR IH hl hlc hl2 hf hb
  go_enter Tryd.func16, Tryd.ntmps16
  go_wp2_with (first
    | (go_at_call 30; refine (HN.out).mono ?_; (rintro r w6 ⟨v6, rfl, hm6, hb6⟩); have HM6 := Lib.hid hm6; have HB6 := Lib.hid hb6; clear hm6 hb6))
  go_ret
  exact ⟨_, rfl, HM6.out, HB0.out.trans HB6.out⟩
theorem pvalC : ∀ N, ValC N
  | 0 => fun x hN => by
    obtain ⟨k, n, b, l, d⟩ := x
    rw [Ob.sz] at hN; omega
  | N + 1 => fun x hN S w base p v P c0 c1 c2 c3 c4 hx hS hbase ht hm hf h8 hb => by
    obtain ⟨k, n, b, l, d⟩ := x
    change k ≠ 8 at h8
    rw [Ob.sz] at hN
    unfold ObR at hx
    obtain ⟨rfl, rfl, hk, hn, ⟨A2, m2, d2, rfl, hB⟩, ⟨A3, d3, rfl, hlc, hl⟩, ⟨A4, d4, rfl, hdc, hd⟩⟩ := hx
    unfold fnO at hf
    obtain ⟨f5, f4, fl, fe⟩ := hf
    rw [prO] at hb ⊢
    have hp : p ≤ 10000000000000 := by omega
    by_cases k1 : k = 1
    · subst k1; rw [if_pos rfl]
      exact pval_bool n A2 A3 A4 m2 d2 _ d3 _ d4 hS hbase ht hm hn hp
    rw [if_neg k1] at hb ⊢
    by_cases k2 : k = 2
    · subst k2; rw [if_pos rfl]
      exact pval_int n A2 A3 A4 m2 d2 _ d3 _ d4 hS hbase ht hm hn hp
    rw [if_neg k2] at hb ⊢
    by_cases k3 : k = 3
    · subst k3; rw [if_pos rfl]
      exact pval_real n A2 A3 A4 m2 d2 _ d3 _ d4 hS hbase ht hm hn hp
    rw [if_neg k3] at hb ⊢
    by_cases k4 : k = 4
    · subst k4; rw [if_pos rfl]
      exact pval_str n A2 A3 A4 m2 d2 _ d3 _ d4 hB (f4 rfl) hS hbase ht hm hn hp
    rw [if_neg k4] at hb ⊢
    by_cases k5 : k = 5
    · subst k5; rw [if_pos rfl]
      exact pval_name n A2 A3 A4 m2 d2 _ d3 _ d4 hB (f5 rfl) hS hbase ht hm hn hp
    rw [if_neg k5] at hb ⊢
    by_cases k9 : k = 9
    · subst k9; rw [if_pos rfl]
      exact pval_ref n A2 A3 A4 m2 d2 _ d3 _ d4 hS hbase ht hm hn hp
    rw [if_neg k9] at hb ⊢
    by_cases k6 : k = 6
    · subst k6; rw [if_pos rfl] at hb ⊢
      exact pval_arr n A2 A3 A4 m2 d2 _ d3 _ d4 (pvalC N) l (by omega) rfl hlc hl fl (by simp only [List.length_append, List.length_cons, List.length_nil] at hb; omega) hS hbase ht hm hn hp
    rw [if_neg k6] at hb ⊢
    by_cases k7 : k = 7
    · subst k7; rw [if_pos (.inl rfl)] at hb ⊢
      exact pval_dict n A2 A3 A4 m2 d2 _ d3 _ d4 (pvalC N) d (by omega) rfl hdc hd fe (by simp only [List.length_append, List.length_cons, List.length_nil] at hb; omega) hS hbase ht hm hn hp
    rw [if_neg (by omega)]
    exact pval_null (by omega) n A2 A3 A4 m2 d2 _ d3 _ d4 hS hbase ht hm hn hp
end

section
open Go.RowKit
set_option linter.unusedVariables false
set_option maxRecDepth 100000
section
variable {x : Ob} {w : World} {c0 c1 c2 c3 c4 : Value}
set_option maxHeartbeats 1000000 in
/-- The project's Value of what may be. -/
theorem pVal_yes (hx : ObR w (fun g => g < w.heap.size) x c0 c1 c2 c3 c4) (ht : Tab w) (hok : okO x) (hht : htO x ≤ 100000000) (hm : mayO x 28 = true) (h8 : x.kind ≠ 8) (hl : (prO x).length ≤ 10000000000000) :
    Calls Tryd.prog 6 #[.agg #[c0, c1, c2, c3, c4]] w fun r w' => ∃ v, r = .returned (.tuple #[v, .int .i64 0]) ∧ Mine w' w.heap.size v (prO x).length (prO x) ∧ Below w.heap.size w w' := by
  obtain ⟨k9, n9, A29, m29, c29, A39, m39, c39, A49, m49, c49, rfl, rfl, rfl, rfl, rfl⟩ := hx.form
  have hkx : k9 = x.kind := by have := kind_c0 hx; injection this
  have hb1 := (Below.refl w.heap.size w).alloc (Nat.le_refl _) (.cells #[.int .i64 k9, .int .i64 n9, .slice A29 m29 c29, .slice A39 m39 c39, .slice A49 m49 c49] 26)
  have hn1 := heap_alloc_new w (.cells #[.int .i64 k9, .int .i64 n9, .slice A29 m29 c29, .slice A39 m39 c39, .slice A49 m49 c49] 26)
  obtain ⟨W1, hW1⟩ : ∃ W1, w.alloc (.cells #[.int .i64 k9, .int .i64 n9, .slice A29 m29 c29, .slice A39 m39 c39, .slice A49 m49 c49] 26) = W1 := ⟨_, rfl⟩
  have hs1 : W1.heap.size = w.heap.size + 1 := by rw [← hW1]; simp
  rw [hW1] at hb1 hn1
  have HCE : Hid (∀ W, Below W1.heap.size W1 W → W.cell? ⟨w.heap.size, 0, none⟩ = some (.int .i64 k9) ∧ W.cell? ⟨w.heap.size, 1, none⟩ = some (.int .i64 n9) ∧ W.cell? ⟨w.heap.size, 2, none⟩ = some (.slice A29 m29 c29) ∧ W.cell? ⟨w.heap.size, 3, none⟩ = some (.slice A39 m39 c39) ∧ W.cell? ⟨w.heap.size, 4, none⟩ = some (.slice A49 m49 c49)) := Lib.hid (fun W hW => by
    have e := (hW.block w.heap.size (by omega)).trans hn1
    exact ⟨cell_of_row _ _ 0 _ _ (0, 0) e, cell_of_row _ _ 1 _ _ (0, 0) e, cell_of_row _ _ 2 _ _ (0, 0) e, cell_of_row _ _ 3 _ _ (0, 0) e, cell_of_row _ _ 4 _ _ (0, 0) e⟩)
  have HMY := Lib.hid (hm ▸ pMayC x (fun g => g < w.heap.size) W1 _ _ _ _ _ (ObR.keep (fun g hg => hb1.block g hg) (fun _ h => h) x hx) (fun g hg => Nat.lt_of_lt_of_le hg hb1.size) hok hht)
  have HVL := Lib.hid (fun W (hW : Below w.heap.size w W) => pvalC x.sz x (Nat.le_refl _) (fun g => g < w.heap.size) W w.heap.size 0 (.slice none 0 0) [] _ _ _ _ _ (ObR.keep (fun g hg => hW.block g hg) (fun _ h => h) x hx) (fun _ h => h) hW.size ((TabB.of ht).below hW) (Mine.nil W w.heap.size) (fn_mayO x 28 hm) h8 (by omega))
  have HB1 := Lib.hid hb1
  have hk8 : (k9 == 8) = false := beq_eq_false_iff_ne.2 (by rw [hkx]; exact h8)
  obtain ⟨R, hR⟩ : ∃ R, prO x = R := ⟨_, rfl⟩
  rw [hR] at HVL ⊢
  obtain ⟨q0, q1, q2, q3, q4⟩ := HCE.out W1 (Below.refl _ _)
  clear hx ht hok hht hm h8 hl hb1 hn1 hs1 hR hkx
  go_enter Tryd.func6, Tryd.ntmps6
  go_wp2_with (first
    | (go_at_call 15; refine HMY.out.mono ?_; (rintro r w2 ⟨rfl, hb2⟩); clear q0 q1 q2 q3 q4; (obtain ⟨q0, q1, q2, q3, q4⟩ := HCE.out w2 hb2); have HB2 := Lib.hid (HB1.out.trans (hb2.mono HB1.out.size)); clear hb2)
    | (go_at_call 16; refine (HVL.out w2 HB2.out).mono ?_; (rintro r w3 ⟨v3, rfl, hm3, hb3⟩); have HM3 := Lib.hid hm3; have HB3 := Lib.hid (HB2.out.trans hb3); clear hm3 hb3))
  go_ret2
  refine ⟨_, rfl, ?_, HB3.out⟩
  have h := HM3.out
  rw [Nat.zero_add, List.nil_append] at h
  exact h
set_option maxHeartbeats 1000000 in
theorem pVal_no (hx : ObR w (fun g => g < w.heap.size) x c0 c1 c2 c3 c4) (hok : okO x) (hht : htO x ≤ 100000000) (hm : ¬ (mayO x 28 = true ∧ x.kind ≠ 8)) :
    Calls Tryd.prog 6 #[.agg #[c0, c1, c2, c3, c4]] w fun r w' => r = .returned (.tuple #[.slice none 0 0, .int .i64 1]) ∧ Below w.heap.size w w' := by
  obtain ⟨k9, n9, A29, m29, c29, A39, m39, c39, A49, m49, c49, rfl, rfl, rfl, rfl, rfl⟩ := hx.form
  have hkx : k9 = x.kind := by have := kind_c0 hx; injection this
  have hb1 := (Below.refl w.heap.size w).alloc (Nat.le_refl _) (.cells #[.int .i64 k9, .int .i64 n9, .slice A29 m29 c29, .slice A39 m39 c39, .slice A49 m49 c49] 26)
  have hn1 := heap_alloc_new w (.cells #[.int .i64 k9, .int .i64 n9, .slice A29 m29 c29, .slice A39 m39 c39, .slice A49 m49 c49] 26)
  obtain ⟨W1, hW1⟩ : ∃ W1, w.alloc (.cells #[.int .i64 k9, .int .i64 n9, .slice A29 m29 c29, .slice A39 m39 c39, .slice A49 m49 c49] 26) = W1 := ⟨_, rfl⟩
  have hs1 : W1.heap.size = w.heap.size + 1 := by rw [← hW1]; simp
  rw [hW1] at hb1 hn1
  have HCE : Hid (∀ W, Below W1.heap.size W1 W → W.cell? ⟨w.heap.size, 0, none⟩ = some (.int .i64 k9) ∧ W.cell? ⟨w.heap.size, 1, none⟩ = some (.int .i64 n9) ∧ W.cell? ⟨w.heap.size, 2, none⟩ = some (.slice A29 m29 c29) ∧ W.cell? ⟨w.heap.size, 3, none⟩ = some (.slice A39 m39 c39) ∧ W.cell? ⟨w.heap.size, 4, none⟩ = some (.slice A49 m49 c49)) := Lib.hid (fun W hW => by
    have e := (hW.block w.heap.size (by omega)).trans hn1
    exact ⟨cell_of_row _ _ 0 _ _ (0, 0) e, cell_of_row _ _ 1 _ _ (0, 0) e, cell_of_row _ _ 2 _ _ (0, 0) e, cell_of_row _ _ 3 _ _ (0, 0) e, cell_of_row _ _ 4 _ _ (0, 0) e⟩)
  obtain ⟨M, hM⟩ : ∃ M, mayO x 28 = M := ⟨_, rfl⟩
  have HMY := Lib.hid (hM ▸ pMayC x (fun g => g < w.heap.size) W1 _ _ _ _ _ (ObR.keep (fun g hg => hb1.block g hg) (fun _ h => h) x hx) (fun g hg => Nat.lt_of_lt_of_le hg hb1.size) hok hht)
  have HB1 := Lib.hid hb1
  obtain ⟨q0, q1, q2, q3, q4⟩ := HCE.out W1 (Below.refl _ _)
  cases M
  · clear hx hok hht hm hb1 hn1 hs1 hkx hM
    go_enter Tryd.func6, Tryd.ntmps6
    go_wp2_with (go_at_call 15; refine HMY.out.mono ?_; (rintro r w2 ⟨rfl, hb2⟩); clear q0 q1 q2 q3 q4; (obtain ⟨q0, q1, q2, q3, q4⟩ := HCE.out w2 hb2); have HB2 := Lib.hid (HB1.out.trans (hb2.mono HB1.out.size)); clear hb2)
    go_ret2
    exact ⟨rfl, HB2.out⟩
  · obtain rfl : k9 = 8 := by rw [hkx]; exact Classical.byContradiction fun h => hm ⟨hM, h⟩
    clear hx hok hht hm hb1 hn1 hs1 hkx hM
    go_enter Tryd.func6, Tryd.ntmps6
    go_wp2_with (go_at_call 15; refine HMY.out.mono ?_; (rintro r w2 ⟨rfl, hb2⟩); clear q0 q1 q2 q3 q4; (obtain ⟨q0, q1, q2, q3, q4⟩ := HCE.out w2 hb2); have HB2 := Lib.hid (HB1.out.trans (hb2.mono HB1.out.size)); clear hb2)
    go_ret2
    exact ⟨rfl, HB2.out⟩
end
end
end Go.Proofs.YtliieeagbpmcgaaDoor
