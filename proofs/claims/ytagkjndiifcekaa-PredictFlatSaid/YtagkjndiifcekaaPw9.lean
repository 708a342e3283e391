/- Chapter 9, the project's own: write. -/
import Derived.Test.YtagkjndiifcekaaPs9
import Derived.Test.YtagkjndiifcekaaMd7
import Derived.Deep.Cut
import Derived.Deep.CutBlock
import Derived.Deep.LoopGhost
import Derived.Deep.RegionLaw
import Derived.Deep.RegionHeld3
namespace Go.Proofs.Ytagkjndiifcekaa
open Go.RowKit
set_option linter.unusedVariables false
set_option maxRecDepth 100000

/-- The project's shape's own block stays. -/
structure SpB (w : World) (g : Nat) (P C K : Int) : Prop where
  lt : g < w.heap.size
  c0 : w.cell? ⟨g, 0, none⟩ = some (.int .i64 P)
  c1 : w.cell? ⟨g, 1, none⟩ = some (.int .i64 C)
  c2 : w.cell? ⟨g, 2, none⟩ = some (.int .i64 K)
theorem SpB.new (w : World) (P C K : Int) : SpB (w.alloc (.cells #[.int .i64 P, .int .i64 C, .int .i64 K] 28)) w.heap.size P C K := by
  have hnew := heap_alloc_new w (.cells #[.int .i64 P, .int .i64 C, .int .i64 K] 28)
  exact ⟨by simp, by rw [cell_of_row _ w.heap.size 0 _ 28 (0, 0) hnew]; rfl, by rw [cell_of_row _ w.heap.size 1 _ 28 (0, 0) hnew]; rfl, by rw [cell_of_row _ w.heap.size 2 _ 28 (0, 0) hnew]; rfl⟩
theorem SpB.below {w w' : World} {g : Nat} {P C K : Int} (h : SpB w g P C K) {B : Nat} (hb : Below B w w') (hB : g < B) : SpB w' g P C K :=
  ⟨Nat.lt_of_lt_of_le h.lt hb.size, (hb.cell (p := ⟨g, 0, none⟩) hB).trans h.c0, (hb.cell (p := ⟨g, 1, none⟩) hB).trans h.c1, (hb.cell (p := ⟨g, 2, none⟩) hB).trans h.c2⟩
theorem SpB.drew {w : World} {g : Nat} {P C K : Int} (h : SpB w g P C K) : SpB w.drew g P C K := ⟨h.lt, h.c0, h.c1, h.c2⟩
theorem Mine.made {w : World} {base M : Nat} (hb : base ≤ w.heap.size) (hM : M ≤ 1000000000) : Mine (w.alloc (.cells (u8s (List.replicate M 0)).toArray 5)) base (.slice (some ⟨w.heap.size, 0, none⟩) 0 M) 0 [] :=
  ⟨⟨rfl, .inr ⟨w.heap.size, M, (u8s (List.replicate M 0)).toArray, rfl, hb, heap_alloc_new w _, Nat.zero_le _, by simp only [maxLen]; omega, by simp [u8s], by simp⟩⟩, fun _ h => by cases h⟩
theorem Mine.app1 {w : World} {base p : Nat} {v : Value} {zs : List Int} (h : Mine w base v p zs) (z : Int) (hz : 0 ≤ z ∧ z < 256) (hb : base ≤ w.heap.size) (hp : p ≤ 100000000) :
    ∃ A' c' w', (Builtin.append_ #[23, 23] 23 #[v, .slice (some ⟨w.heap.size, 0, none⟩) 1 1]).run Try.prog (w.alloc (.cells #[.int .u8 z] 5)) = .ok (.slice A' (p + 1) c') w' ∧ Mine w' base (.slice A' (p + 1) c') (p + 1) (zs ++ [z]) ∧ Below base w w' := by
  have hb1 : Below w.heap.size w (w.alloc (.cells #[.int .u8 z] 5)) := (Below.refl _ _).alloc (Nat.le_refl _) _
  have hm1 := h.kept hb1
  obtain ⟨v', w', hr, hm, hk⟩ := hm1.appendX (byt_lit0 w z hz) 23 (by omega) (Nat.le_trans hb hb1.size)
  obtain ⟨A', c', rfl, _⟩ := hm.byt
  exact ⟨A', c', w', hr, hm, (hb1.mono hb).trans (hk.below (Nat.le_trans hb hb1.size) hm1.owned)⟩
theorem SpB.set_ {w : World} {g : Nat} {P C K : Int} (h : SpB w g P C K) (b i : Nat) (v : Value) (hne : g ≠ b) : SpB (w.setCell ⟨b, i, none⟩ v) g P C K := by
  have key : ∀ j, (w.setCell ⟨b, i, none⟩ v).cell? ⟨g, j, none⟩ = w.cell? ⟨g, j, none⟩ := fun j => World.cell?_of_block (Below.heap_setCell w ⟨b, i, none⟩ v g hne)
  exact ⟨by simpa [World.setCell] using h.lt, (key 0).trans h.c0, (key 1).trans h.c1, (key 2).trans h.c2⟩
theorem rows_below {w w' : World} {o : Obj} (h : Below (w.alloc o).drew.heap.size (w.alloc o).drew w') : Below w.heap.size w w' :=
  ((Below.refl w.heap.size w).alloc (Nat.le_refl _) o).drew.trans (h.mono (show w.heap.size ≤ (w.alloc o).heap.size by simp))
theorem drew_below {w w' : World} (h : Below w.drew.heap.size w.drew w') : Below w.heap.size w w' := (Below.refl w.heap.size w).drew.trans (show Below w.heap.size w.drew w' from h)
theorem rows_set {w : World} {g : Nat} {A : Option Addr} {m cp n c : Nat} {x y z : Value} (h : w.heap[g]? = some (.cells #[x, y, z] 49 (0, 0))) :
    RwB (((w.setCell ⟨g, 0, none⟩ (.slice A m cp)).setCell ⟨g, 1, none⟩ (.int .i64 n)).setCell ⟨g, 2, none⟩ (.int .i64 c)) g A m cp n c := by
  have h1 := heap_set w g 0 (.slice A m cp) [x, y, z] _ h
  have h2 := heap_set _ g 1 (.int .i64 n) _ _ h1
  have h3 := heap_set _ g 2 (.int .i64 c) _ _ h2
  exact ⟨row_lt _ g _ h3, by rw [cell_of_row _ g 0 _ 49 (0, 0) h3]; rfl, by rw [cell_of_row _ g 1 _ 49 (0, 0) h3]; rfl, by rw [cell_of_row _ g 2 _ 49 (0, 0) h3]; rfl⟩
theorem rows_zero {w w' : World} (h : Below (w.alloc (.cells #[.slice none 0 0, .int .i64 0, .int .i64 0] 49)).drew.heap.size (w.alloc (.cells #[.slice none 0 0, .int .i64 0, .int .i64 0] 49)).drew w') :
    w'.cell? ⟨w.heap.size, 0, none⟩ = some (.slice none 0 0) ∧ w'.cell? ⟨w.heap.size, 1, none⟩ = some (.int .i64 0) ∧ w'.cell? ⟨w.heap.size, 2, none⟩ = some (.int .i64 0) ∧ (∀ i, w'.frozen? ⟨w.heap.size, i, none⟩ = false) ∧ w'.heap[w.heap.size]? = some (.cells #[.slice none 0 0, .int .i64 0, .int .i64 0] 49 (0, 0)) := by
  have hh : w'.heap[w.heap.size]? = some (.cells #[.slice none 0 0, .int .i64 0, .int .i64 0] 49 (0, 0)) := (h.block w.heap.size (show w.heap.size < (w.alloc (.cells #[.slice none 0 0, .int .i64 0, .int .i64 0] 49)).heap.size by simp)).trans (heap_alloc_new w _)
  exact ⟨by rw [cell_of_row w' w.heap.size 0 _ 49 (0, 0) hh]; rfl, by rw [cell_of_row w' w.heap.size 1 _ 49 (0, 0) hh]; rfl, by rw [cell_of_row w' w.heap.size 2 _ 49 (0, 0) hh]; rfl, fun i => by simp [World.frozen?, hh], hh⟩
set_option maxHeartbeats 4000000 in
theorem pWriteC (P : Int) (c k n : Nat) (A : Option Addr) (m cp : Nat) (zs : List Int) (w : World) (hb : Byt w w.heap.size A m cp zs) (hm : m ≤ 10000) (hP : P = 2 ∨ (10 ≤ P ∧ P ≤ 15)) (hc : 1 ≤ c ∧ c ≤ 4) (hk : 1 ≤ k ∧ k ≤ 4096) (hn : c * k = n) (R : List Int × Int)
    (hR : (if m % n ≠ 0 then ([], 4) else (doF (tagZ P) c n (decide (10 ≤ P)) zs m 0, 0)) = R) :
    Calls Try.prog 19 #[shV P c k, .slice A m cp] w (RdP w R) := by
  have hnb : 1 ≤ n ∧ n ≤ 16384 := by
    rw [← hn]
    exact ⟨Nat.mul_pos hc.1 hk.1, Nat.mul_le_mul hc.2 hk.2⟩
  have HBY := Lib.hid (fun W (hW : Below w.heap.size w W) => (hb.below hW (Nat.le_refl _)).more hW.size)
  have HRG := Lib.hid hb.rng
  have HLEN := Lib.hid hb.len
  have HRW := Lib.hid (fun W => rowC P c k n W hc.2 hk.2 hn)
  have HAH := Lib.hid (fun W => aheadC P c k W)
  have HTG := Lib.hid (fun W => tagC P c k W (by omega))
  have HRU := Lib.hid (fun W => rulesC A m cp n c W)
  have HW1 := Lib.hid ((Below.refl w.heap.size w).alloc (Nat.le_refl _) (.cells #[.int .i64 P, .int .i64 c, .int .i64 k] 28))
  have HSH := Lib.hid (SpB.new w P c k)
  obtain ⟨W1, hW1⟩ : ∃ W1, w.alloc (.cells #[.int .i64 P, .int .i64 c, .int .i64 k] 28) = W1 := ⟨_, rfl⟩
  have hsz : W1.heap.size = w.heap.size + 1 := by rw [← hW1]; simp
  rw [hW1] at HW1 HSH
  have HSZ := Lib.hid hsz
  have a0 := HSH.out.c0
  have a1 := HSH.out.c1
  have a2 := HSH.out.c2
  obtain ⟨rm, hrm⟩ : ∃ rm, m % n = rm := ⟨_, rfl⟩
  rw [hrm] at hR
  have er1 : (m : Int).tmod n = rm := by rw [Int.tmod_eq_emod_of_nonneg (by omega)]; omega
  have er2 : (m : Int) % n = rm := by omega
  have wrm : IntKind.i64.wrap (rm : Int) = rm := IntWalk.i64_in _ (by have := Nat.mod_le m n; omega)
  have hn0 : ¬ (n : Int) = 0 := by omega
  obtain ⟨ah, hah⟩ : ∃ ah : Nat, (if 10 ≤ P then 1 else 0) = ah := ⟨_, rfl⟩
  have eah : (if 10 ≤ P then (1 : Int) else 0) = ah := by rw [← hah]; split <;> rfl
  rw [eah] at HAH
  have ha1 : ah ≤ 1 := by rw [← hah]; split <;> omega
  clear hb hsz hn
  by_cases hrm0 : rm = 0
  · have er3 : ((rm : Int) != 0) = false := by simp [hrm0]
    rw [if_neg (by omega)] at hR
    clear hrm
    go_enter Try.func19, Try.ntmps19
    go_upto_region 3 with (go_at_call 24; with_reducible refine (HRW.out _).mono ?_; (rintro r w2 ⟨rfl, hb2⟩); have HB2 := Lib.hid (HW1.out.trans (hb2.mono HW1.out.size)); have HS2 := Lib.hid (HSH.out.below hb2 HSH.out.lt); have b0 := HS2.out.c0; have b1 := HS2.out.c1; have b2 := HS2.out.c2; clear hb2)
    rename_i KR hKR
    suffices hrest : ∀ (u17 u18 u19 u20 u21 u22 : Value) (g : Nat) (wx : World), Hid (RwB wx g A m cp n c) → Hid (SpB wx w.heap.size P c k) → Hid (Below w.heap.size w wx) → KR { tmps := #[shV P c k, .slice A m cp, .pointer (some ⟨w.heap.size, 0, none⟩), undef, .slice none 0 0, .int .i64 0, .pointer (some ⟨g, 0, none⟩), undef, undef, undef, undef, .slice A m cp, .int .i64 m, .agg #[.int .i64 P, .int .i64 c, .int .i64 k], .int .i64 n, .int .i64 0, .bool false, u17, u18, u19, u20, u21, u22, undef, undef, undef, undef, undef, undef, undef, undef, undef, undef, undef, undef, undef, undef, undef, undef, undef, undef, undef, undef, undef, undef, undef, undef, undef, undef, undef, undef, undef, undef, undef, undef, undef, undef, undef, undef, undef, undef, undef, undef, undef, undef, undef, undef, undef, undef, undef, undef, undef, undef], defers := [] } wx by
      clear hKR
      go_region_held3 (fun w' => w'.cell? ⟨w.heap.size, 0, none⟩ = some (.int .i64 P) ∧ w'.cell? ⟨w.heap.size, 1, none⟩ = some (.int .i64 c) ∧ w'.cell? ⟨w.heap.size, 2, none⟩ = some (.int .i64 k)) (first | exact ⟨b0, b1, b2⟩ | exact ⟨c0, c1, c2⟩ | exact ⟨d0, d1, d2⟩ | go_keep)
       (first
        | (go_simp; go_at_call 24; with_reducible refine (HRW.out _).mono ?_; (rintro r w3 ⟨rfl, hb3⟩); (first | (have HZ3 := Lib.hid (rows_below hb3)) | (have HZ3 := Lib.hid (drew_below hb3))); have HS3 := Lib.hid (HS2.out.below HZ3.out HS2.out.lt); have c0 := HS3.out.c0; have c1 := HS3.out.c1; have c2 := HS3.out.c2; first | (have HG3 := Lib.hid (rows_zero hb3); have q0 := HG3.out.1; have q1 := HG3.out.2.1; have q2 := HG3.out.2.2.1; have q3 := HG3.out.2.2.2.1; have HS4 := Lib.hid (((HS3.out.set_ w2.heap.size 0 (.slice A m cp) (Nat.ne_of_lt HS2.out.lt)).set_ w2.heap.size 1 (.int .i64 n) (Nat.ne_of_lt HS2.out.lt)).set_ w2.heap.size 2 (.int .i64 c) (Nat.ne_of_lt HS2.out.lt)); have d0 := HS4.out.c0; have d1 := HS4.out.c1; have d2 := HS4.out.c2; clear hb3) | (clear hb3)))
      · exact hrest _ _ _ _ _ _ w3.heap.size _ (Lib.hid (RwB.new w3 A m cp n c)) (Lib.hid (HS3.out.below ((Below.refl w3.heap.size w3).alloc (Nat.le_refl _) _) HS3.out.lt)) (Lib.hid ((HB2.out.trans (HZ3.out.mono HB2.out.size)).alloc (HB2.out.trans (HZ3.out.mono HB2.out.size)).size _))
      · exact hrest _ _ _ _ _ _ w2.heap.size _ (Lib.hid (rows_set HG3.out.2.2.2.2)) HS4 (Lib.hid ((((HB2.out.trans (HZ3.out.mono HB2.out.size)).setCell (p := ⟨w2.heap.size, 0, none⟩) HB2.out.size _).setCell (p := ⟨w2.heap.size, 1, none⟩) HB2.out.size _).setCell (p := ⟨w2.heap.size, 2, none⟩) HB2.out.size _))
    intro u17 u18 u19 u20 u21 u22 g wx HR3 HS3 HB3
    refine hKR _ _ ?_
    clear hKR KR b0 b1 b2 HS2 HB2 w2
    have e0 := HR3.out.c0
    have e1 := HR3.out.c1
    have e2 := HR3.out.c2
    have b0 := HS3.out.c0
    have b1 := HS3.out.c1
    have b2 := HS3.out.c2
    obtain ⟨T, hT⟩ : ∃ T, tagZ P = T := ⟨_, rfl⟩
    have hTr : 0 ≤ T ∧ T ≤ 4 := by rw [← hT]; unfold tagZ; split <;> (try split) <;> omega
    obtain ⟨F, hF⟩ := isRule_ex T hTr
    have HFR := Lib.hid hF
    have HIX := rule_ix T F hF (rwV A m cp n c)
    rw [hT] at HTG hR
    clear hF
    go_wp2_with fail
    go_region_held3 (fun w' => w'.cell? ⟨g, 0, none⟩ = some (.slice A m cp) ∧ w'.cell? ⟨g, 1, none⟩ = some (.int .i64 n) ∧ w'.cell? ⟨g, 2, none⟩ = some (.int .i64 c) ∧ w'.cell? ⟨w.heap.size, 0, none⟩ = some (.int .i64 P) ∧ w'.cell? ⟨w.heap.size, 1, none⟩ = some (.int .i64 c) ∧ w'.cell? ⟨w.heap.size, 2, none⟩ = some (.int .i64 k)) (first | exact ⟨e0, e1, e2, b0, b1, b2⟩ | exact ⟨f0, f1, f2, c0, c1, c2⟩ | exact ⟨i0, i1, i2, d0, d1, d2⟩ | go_keep)
     (first
      | (go_simp; go_at_call 25; with_reducible refine (HRU.out _).mono ?_; (rintro r w4 ⟨rfl, hb4⟩); have HZ4 := Lib.hid (drew_below hb4); have HR4 := Lib.hid (HR3.out.below HZ4.out HR3.out.lt); have HS4 := Lib.hid (HS3.out.below HZ4.out HS3.out.lt); have f0 := HR4.out.c0; have f1 := HR4.out.c1; have f2 := HR4.out.c2; have c0 := HS4.out.c0; have c1 := HS4.out.c1; have c2 := HS4.out.c2; clear hb4)
      | (go_simp; go_at_call 26; with_reducible refine (HTG.out _).mono ?_; (rintro r w5 ⟨rfl, hb5⟩); have HZ5 := Lib.hid hb5; have HR5 := Lib.hid (HR4.out.below HZ5.out HR4.out.lt); have HS5 := Lib.hid (HS4.out.below HZ5.out HS4.out.lt); have i0 := HR5.out.c0; have i1 := HR5.out.c1; have i2 := HR5.out.c2; have d0 := HS5.out.c0; have d1 := HS5.out.c1; have d2 := HS5.out.c2; clear hb5))
    have HB5 := Lib.hid (HB3.out.trans ((HZ4.out.trans (HZ5.out.mono HZ4.out.size)).mono HB3.out.size))
    clear e0 e1 e2 f0 f1 f2 i0 i1 i2 b0 b1 b2 c0 c1 c2 HIX
    clear HR5 HR4 HR3 HS4 HS3 HZ4 HZ5 HRU
    obtain ⟨q, hq⟩ : ∃ q, m / n = q := ⟨_, rfl⟩
    have hqm : q ≤ 10000 := by rw [← hq]; have := Nat.div_le_self m n; omega
    have dq1 : (m : Int).tdiv n = q := by rw [Int.tdiv_eq_ediv_of_nonneg (by omega)]; rw [← hq]; simp
    have dq2 : (m : Int) / n = q := by rw [← hq]; simp
    have wq : IntKind.i64.wrap (q : Int) = q := IntWalk.i64_in _ (by omega)
    obtain ⟨M0, hM0⟩ : ∃ M0, q * ah = M0 := ⟨_, rfl⟩
    have hM0b : M0 ≤ 10000 := by rw [← hM0]; have := Nat.mul_le_mul hqm ha1; omega
    have eM0 : (q : Int) * (ah : Int) = M0 := by rw [← hM0]; simp
    have wM0 : IntKind.i64.wrap (M0 : Int) = M0 := IntWalk.i64_in _ (by omega)
    obtain ⟨M, hM⟩ : ∃ M, m + M0 = M := ⟨_, rfl⟩
    have hMb : M ≤ 20000 := by omega
    have eM : (m : Int) + (M0 : Int) = M := by omega
    have wM : IntKind.i64.wrap (M : Int) = M := IntWalk.i64_in _ (by omega)
    have hmk : ∀ W : World, (Instr.makeSlice 23 (.int .i64 0) (.int .i64 (M : Int))).run Try.prog W = .ok (.slice (some ⟨W.heap.size, 0, none⟩) 0 M) (W.alloc (.cells (u8s (List.replicate M 0)).toArray 5)) := fun W => make_bytes 0 M W (Nat.zero_le _) (by omega)
    have hnN : ¬ n = 0 := by omega
    have HMb := Lib.hid hMb
    clear hq hM0 hM hMb hM0b hqm
    go_wp2_with fail
    go_region_held3 (fun w' => w'.cell? ⟨w.heap.size, 0, none⟩ = some (.int .i64 P) ∧ w'.cell? ⟨w.heap.size, 1, none⟩ = some (.int .i64 c) ∧ w'.cell? ⟨w.heap.size, 2, none⟩ = some (.int .i64 k)) (first | exact ⟨d0, d1, d2⟩ | exact ⟨b0, b1, b2⟩ | exact ⟨c0, c1, c2⟩ | go_keep)
     (first
      | (go_simp; go_at_call 24; with_reducible refine (HRW.out _).mono ?_; (rintro r w6 ⟨rfl, hb6⟩); have HZ6 := Lib.hid (drew_below hb6); have HS6 := Lib.hid (HS5.out.below HZ6.out HS5.out.lt); have b0 := HS6.out.c0; have b1 := HS6.out.c1; have b2 := HS6.out.c2; clear hb6)
      | (go_simp; go_at_call 23; with_reducible refine (HAH.out _).mono ?_; (rintro r w7 ⟨rfl, hb7⟩); have HZ7 := Lib.hid hb7; have HS7 := Lib.hid (HS6.out.below HZ7.out HS6.out.lt); have c0 := HS7.out.c0; have c1 := HS7.out.c1; have c2 := HS7.out.c2; clear hb7))
    have HB7 := Lib.hid (HB5.out.trans ((HZ6.out.trans (HZ7.out.mono HZ6.out.size)).mono HB5.out.size))
    have HM8 := Lib.hid (Mine.made (w := w7) (M := M) (Nat.le_refl _) (by have := HMb.out; omega))
    have HB8 := Lib.hid ((Below.refl w7.heap.size w7).alloc (Nat.le_refl _) (.cells (u8s (List.replicate M 0)).toArray 5))
    obtain ⟨W8, hW8⟩ : ∃ W8, w7.alloc (.cells (u8s (List.replicate M 0)).toArray 5) = W8 := ⟨_, rfl⟩
    rw [hW8] at HM8 HB8 ⊢
    clear b0 b1 b2 c0 c1 c2 d0 d1 d2 hmk HS5 HS6 HZ6 HZ7 dq1 dq2 wq eM0 wM0 eM wM hW8
    obtain ⟨ten, hten⟩ : ∃ ten, decide (10 ≤ P) = ten := ⟨_, rfl⟩
    rw [hten] at hR
    have HTA : Hid ((ten = true ∧ ah = 1) ∨ (ten = false ∧ ah = 0)) := Lib.hid (by
      rw [← hten, ← hah]
      by_cases h : 10 ≤ P
      · exact .inl ⟨decide_eq_true h, if_pos h⟩
      · exact .inr ⟨decide_eq_false h, if_neg h⟩)
    obtain ⟨FB, hFB⟩ : ∃ FB, doF T c n ten zs m 0 = FB := ⟨_, rfl⟩
    have HFB : Hid ([] ++ doF T c n ten zs (m - 0) 0 = FB) := Lib.hid hFB
    have HFL : Hid (FB.length ≤ 20000) := Lib.hid (by rw [← hFB]; have := doF_len T c n ten zs m 0; omega)
    rw [hFB] at hR
    have HRR := Lib.hid hR
    have HRL := Lib.hid (fun W (hW : Below w7.heap.size w7 W) i (hi : i < m) => ruleC T F HFR.out A m cp i n c zs W (HBY.out W (HB7.out.trans (hW.mono HB7.out.size))) hi (by omega) hc hnb)
    clear hFB hR hten hT hah
    go_wp2_with fail
    go_loopw [8, 9, 10, 42] (fun ox _ _ iv wr => ∃ (ov : Value) (i : Nat) (O : List Int), ov = ox ∧ i ≤ m ∧ iv = .int .i64 i ∧ Hid (O ++ doF T c n ten zs (m - i) i = FB) ∧ Hid (Mine wr w7.heap.size ov O.length O) ∧ Hid (Below w7.heap.size w7 wr)) (fun _ _ _ iv _ => m - (intOf iv).toNat)
    case atStart => exact ⟨_, 0, [], rfl, Nat.zero_le _, rfl, HFB, HM8, HB8⟩
    case round =>
      obtain ⟨ov, i, O, rfl, hi, rfl, HO, HM, HBE⟩ := hrel
      have HOL : Hid (O.length ≤ 20000) := Lib.hid (by
        have h1 := congrArg List.length HO.out
        rw [List.length_append] at h1
        have := HFL.out
        omega)
      by_cases hlt : i < m
      · have ho := HO.out
        rw [show m - i = (m - (i + 1)) + 1 by omega, doF, if_pos (by rw [HLEN.out]; exact hlt)] at ho
        have HR1 := Lib.hid (fun W (hW : Below w7.heap.size w7 W) => HRL.out W hW i hlt)
        have hgr := gsZ_rng T c n zs HRG.out i
        obtain ⟨g1, hg1⟩ : ∃ g1, gsZ T c n zs i = g1 := ⟨_, rfl⟩
        rw [hg1] at HR1 hgr ho
        have hxr := getD_rng zs HRG.out i
        obtain ⟨b, o, he, _, hcl⟩ := (HBY.out wr (HB7.out.trans (HBE.out.mono HB7.out.size))).cell (by omega)
        have ci := hcl i hlt
        obtain ⟨x, hx⟩ : ∃ x, zs.getD i 0 = x := ⟨_, rfl⟩
        rw [hx] at ci hxr ho
        obtain ⟨V, hV⟩ : ∃ V, (x - g1) % 256 = V := ⟨_, rfl⟩
        rw [hV] at ho
        have hVr : 0 ≤ V ∧ V < 256 := by omega
        have wV : IntKind.u8.wrap (x - g1) = V := by rw [IntKind.wrap_u8]; exact hV
        have wT8 : IntKind.u8.wrap T = T := IntWalk.u8_in _ (by omega)
        obtain ⟨q, hq⟩ : ∃ q, i % n = q := ⟨_, rfl⟩
        rw [hq] at ho
        have em1 : (i : Int).tmod n = q := by rw [Int.tmod_eq_emod_of_nonneg (by omega)]; omega
        have em2 : (i : Int) % n = q := by omega
        have wq : IntKind.i64.wrap (q : Int) = q := IntWalk.i64_in _ (by have := Nat.mod_le i n; omega)
        have hin : (i : Int) < m := by omega
        have HHO := Lib.hid ho
        have HVR := Lib.hid hVr
        have HTR := Lib.hid hTr
        have hcf := rule_cf T F HFR.out
        have hsw := HS7.out.below HBE.out HS7.out.lt
        have k0 := hsw.c0
        have k1 := hsw.c1
        have k2 := hsw.c2
        have HSW := Lib.hid hsw
        clear hg1 hx hV hq ho hcl hgr hxr hVr hsw
        subst he
        obtain ⟨A0, c0, hov, _⟩ := HM.out.byt
        subst hov
        by_cases hq0 : q = 0
        · have t1 : ((q : Int) == 0) = true := beq_iff_eq.2 (by omega)
          rcases HTA.out with ⟨rfl, hah1⟩ | ⟨rfl, hah1⟩
          · have ga : (ah : Int) > 0 := by omega
            have HO2 : Hid (O ++ [T] ++ [V] ++ doF T c n true zs (m - (i + 1)) (i + 1) = FB) := Lib.hid (by
              have h := HHO.out
              rw [if_pos ⟨hq0, rfl⟩] at h
              rw [List.append_assoc, List.append_assoc]
              exact h)
            clear HHO hq0 hah1
            go_wp2_with (first
              | (go_at_call 24; with_reducible refine (HRW.out _).mono ?_; (rintro r wa ⟨rfl, hba⟩); have HBA := Lib.hid (HBE.out.trans (hba.mono HBE.out.size)); have HMA := Lib.hid (HM.out.kept hba); have HSA := Lib.hid (HSW.out.below hba HSW.out.lt); have l0 := HSA.out.c0; have l1 := HSA.out.c1; have l2 := HSA.out.c2; clear hba)
              | (go_at_call 23; with_reducible refine (HAH.out _).mono ?_; (rintro r wb ⟨rfl, hbb⟩); have HBB := Lib.hid (HBA.out.trans (hbb.mono HBA.out.size)); have HMB := Lib.hid (HMA.out.kept hbb); have HSB := Lib.hid (HSA.out.below hbb HSA.out.lt); have n0 := HSB.out.c0; have n1 := HSB.out.c1; have n2 := HSB.out.c2; clear hbb)
              | (go_at_call 26; with_reducible refine (HTG.out _).mono ?_; (rintro r wd ⟨rfl, hbd⟩); have HBD := Lib.hid (HBB.out.trans (hbd.mono HBB.out.size)); have HMD := Lib.hid (HMB.out.kept hbd); have HAD := Lib.hid (HMD.out.app1 T (by have := HTR.out; omega) HBD.out.size (by have := HOL.out; omega)); clear hbd)
              | (at_builtin; obtain ⟨A3, c3, w3, hrun3, hm3, hb3⟩ := HAD.out; refine Lib.wpList_append_run_sl _ rfl (.tmp 57) (.tmp 61) 23 rfl _ _ rfl rfl hrun3 ?_; clear hrun3 HAD; have HM3 := Lib.hid hm3; have HB3 := Lib.hid (HBD.out.trans hb3); clear hm3 hb3)
              | (with_reducible refine (HR1.out _ HB3.out).mono ?_; (rintro r we ⟨rfl, hbe⟩); have HBF := Lib.hid (HB3.out.trans (hbe.mono HB3.out.size)); have HMF := Lib.hid (HM3.out.kept hbe); have HAF := Lib.hid (HMF.out.app1 V HVR.out HBF.out.size (by have := HOL.out; omega)); clear hbe)
              | (at_builtin; obtain ⟨A6, c6, w6, hrun6, hm6, hb6⟩ := HAF.out; refine Lib.wpList_append_run_sl _ rfl (.tmp 63) (.tmp 69) 23 rfl _ _ rfl rfl hrun6 ?_; clear hrun6 HAF; have HM6 := Lib.hid hm6; have HB6 := Lib.hid (HBF.out.trans hb6); clear hm6 hb6))
            go_roundw
            case rel => exact ⟨_, i + 1, _, rfl, by omega, by go_num, HO2, Lib.hid HM6.out.cast9, HB6⟩
            case measure => simp [intOf]; omega
          · have ga : ¬ (ah : Int) > 0 := by omega
            have HO2 : Hid (O ++ [V] ++ doF T c n false zs (m - (i + 1)) (i + 1) = FB) := Lib.hid (by
              have h := HHO.out
              rw [if_neg (fun h => absurd h.2 (by decide)), List.nil_append] at h
              rw [List.append_assoc]
              exact h)
            clear HHO hq0 hah1
            go_wp2_with (first
              | (go_at_call 24; with_reducible refine (HRW.out _).mono ?_; (rintro r wa ⟨rfl, hba⟩); have HBA := Lib.hid (HBE.out.trans (hba.mono HBE.out.size)); have HMA := Lib.hid (HM.out.kept hba); have HSA := Lib.hid (HSW.out.below hba HSW.out.lt); have l0 := HSA.out.c0; have l1 := HSA.out.c1; have l2 := HSA.out.c2; clear hba)
              | (go_at_call 23; with_reducible refine (HAH.out _).mono ?_; (rintro r wb ⟨rfl, hbb⟩); have HBB := Lib.hid (HBA.out.trans (hbb.mono HBA.out.size)); have HMB := Lib.hid (HMA.out.kept hbb); clear hbb)
              | (with_reducible refine (HR1.out _ HBB.out).mono ?_; (rintro r we ⟨rfl, hbe⟩); have HBF := Lib.hid (HBB.out.trans (hbe.mono HBB.out.size)); have HMF := Lib.hid (HMB.out.kept hbe); have HAF := Lib.hid (HMF.out.app1 V HVR.out HBF.out.size (by have := HOL.out; omega)); clear hbe)
              | (at_builtin; obtain ⟨A6, c6, w6, hrun6, hm6, hb6⟩ := HAF.out; refine Lib.wpList_append_run_sl _ rfl (.tmp 63) (.tmp 69) 23 rfl _ _ rfl rfl hrun6 ?_; clear hrun6 HAF; have HM6 := Lib.hid hm6; have HB6 := Lib.hid (HBF.out.trans hb6); clear hm6 hb6))
            go_roundw
            case rel => exact ⟨_, i + 1, _, rfl, by omega, by go_num, HO2, Lib.hid HM6.out.cast9, HB6⟩
            case measure => simp [intOf]; omega
        · have t1 : ((q : Int) == 0) = false := beq_eq_false_iff_ne.2 (by omega)
          have HO2 : Hid (O ++ [V] ++ doF T c n ten zs (m - (i + 1)) (i + 1) = FB) := Lib.hid (by
            have h := HHO.out
            rw [if_neg (fun h => hq0 h.1), List.nil_append] at h
            rw [List.append_assoc]
            exact h)
          clear HHO hq0
          go_wp2_with (first
            | (go_at_call 24; with_reducible refine (HRW.out _).mono ?_; (rintro r wa ⟨rfl, hba⟩); have HBA := Lib.hid (HBE.out.trans (hba.mono HBE.out.size)); have HMA := Lib.hid (HM.out.kept hba); clear hba)
            | (with_reducible refine (HR1.out _ HBA.out).mono ?_; (rintro r we ⟨rfl, hbe⟩); have HBF := Lib.hid (HBA.out.trans (hbe.mono HBA.out.size)); have HMF := Lib.hid (HMA.out.kept hbe); have HAF := Lib.hid (HMF.out.app1 V HVR.out HBF.out.size (by have := HOL.out; omega)); clear hbe)
            | (at_builtin; obtain ⟨A6, c6, w6, hrun6, hm6, hb6⟩ := HAF.out; refine Lib.wpList_append_run_sl _ rfl (.tmp 63) (.tmp 69) 23 rfl _ _ rfl rfl hrun6 ?_; clear hrun6 HAF; have HM6 := Lib.hid hm6; have HB6 := Lib.hid (HBF.out.trans hb6); clear hm6 hb6))
          go_roundw
          case rel => exact ⟨_, i + 1, _, rfl, by omega, by go_num, HO2, Lib.hid HM6.out.cast9, HB6⟩
          case measure => simp [intOf]; omega
      · obtain rfl : m = i := by omega
        have ho := HO.out
        rw [Nat.sub_self, doF, List.append_nil] at ho
        have HHO := Lib.hid ho
        clear ho
        go_wp2_with fail
        go_ret2
        rw [← HRR.out, ← HHO.out]
        exact RdP.of_row (HB7.out.trans (HBE.out.mono HB7.out.size)) HM.out
  · have er3 : ((rm : Int) != 0) = true := by simp [hrm0]
    rw [if_pos hrm0] at hR
    subst hR
    clear hrm hrm0
    go_enter Try.func19, Try.ntmps19
    go_wp2_with (go_at_call 24; with_reducible refine (HRW.out _).mono ?_; (rintro r w2 ⟨rfl, hb2⟩); have HB2 := Lib.hid (HW1.out.trans (hb2.mono HW1.out.size)); clear hb2)
    go_ret2
    exact RdP.of_bad 4 HB2.out
end Go.Proofs.Ytagkjndiifcekaa
