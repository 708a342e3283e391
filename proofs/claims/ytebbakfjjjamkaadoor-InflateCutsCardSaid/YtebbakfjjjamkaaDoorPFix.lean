/- The project's own fixed codes (package inflate): fixedPair. -/
import Derived.Test.YtebbakfjjjamkaaDoorPConc
import Derived.Test.YtebbakfjjjamkaaDoorRef4Fixed
namespace Go.Proofs.YtebbakfjjjamkaaDoor
open Go.RowKit
set_option linter.unusedVariables false
set_option maxRecDepth 100000

theorem Nums.more1 {w : World} {B n c : Nat} {A : Option Addr} {zs : List Int} (h : Nums w B A n c zs) : Nums w (B + 1) A n c zs := ⟨h.len, h.cap, fun hn => by
  obtain ⟨b, o, e, hlt, hc⟩ := h.cell hn
  exact ⟨b, o, e, Nat.lt_succ_of_lt hlt, hc⟩⟩
theorem pcode_yes (A : Option Addr) (n c B : Nat) (l : List Int) (w : World) (hl : Nums w B A n c l) (hB : B ≤ w.heap.size) (hn : n ≤ 288) (h0 : ∀ i, 0 ≤ l.getD i 0) (h15 : ∀ i, l.getD i 0 ≤ 15) (hm : mayS l = true) :
    Calls Tryd.prog 60 #[.slice A n c] w fun e w' => e = .returned (.tuple #[.pointer (some ⟨w.heap.size, 0, none⟩), .bool true]) ∧ CB w' w.heap.size l ∧ Below w.heap.size w w' :=
  (pcodeOf A n c B l w hl hB hn h0 h15).mono fun e w' h => by
    unfold codeOfPost at h
    rw [if_pos hm] at h
    exact ⟨h.1.1, h.1.2, h.2⟩
theorem pcode_no (A : Option Addr) (n c B : Nat) (l : List Int) (w : World) (hl : Nums w B A n c l) (hB : B ≤ w.heap.size) (hn : n ≤ 288) (h0 : ∀ i, 0 ≤ l.getD i 0) (h15 : ∀ i, l.getD i 0 ≤ 15) (hm : ¬ mayS l = true) :
    Calls Tryd.prog 60 #[.slice A n c] w fun e w' => e = .returned (.tuple #[.pointer none, .bool false]) ∧ Below w.heap.size w w' :=
  (pcodeOf A n c B l w hl hB hn h0 h15).mono fun e w' h => by
    unfold codeOfPost at h
    rw [if_neg hm] at h
    exact h
/-- Repeat of a literal of one number. -/
theorem rep_lit (x : Int) (m : Nat) (W : World) (m1 : 1 ≤ m) (hm : m ≤ 300) :
    Calls Tryd.prog 62 #[.slice (some ⟨W.heap.size, 0, none⟩) 1 1, .int .i64 m] (W.alloc (.cells #[.int .i64 x] 3)) fun e w' => e = .returned (.slice (some ⟨W.heap.size + 1, 0, none⟩) m m) ∧ IRow w' (W.heap.size + 1) (List.replicate m x) ∧ Below W.heap.size W w' := by
  have h := prepeat W.heap.size m x (W.alloc (.cells #[.int .i64 x] 3)) (by rw [cell_of_row _ W.heap.size 0 #[.int .i64 x] 3 (0, 0) (heap_alloc_new W _)]; rfl) (by simp) m1 hm
  have hs : (W.alloc (.cells #[.int .i64 x] 3)).heap.size = W.heap.size + 1 := by simp
  rw [hs] at h
  exact h.mono fun e w' ⟨h1, h2, h3⟩ => ⟨h1, h2, ((Below.refl W.heap.size W).alloc (Nat.le_refl _) _).trans (h3.mono (by omega))⟩
def fixZ (i : Nat) : List Int := if i = 0 then List.replicate 144 8 else if i = 1 then List.replicate 112 9 else if i = 2 then List.replicate 24 7 else List.replicate 8 8
theorem fixZ_all : catZ fixZ 4 = fixLs := by decide +kernel
theorem fixDs_all : List.replicate 32 (5 : Int) = fixDs := by decide +kernel
theorem may_fix : mayS fixLs = true ∧ mayS fixDs = true := by decide +kernel
theorem fix_lens : (∀ i, 0 ≤ fixLs.getD i 0) ∧ (∀ i, fixLs.getD i 0 ≤ 15) ∧ (∀ i, 0 ≤ fixDs.getD i 0) ∧ (∀ i, fixDs.getD i 0 ≤ 15) := by
  have h : ∀ l : List Int, (∀ z ∈ l, 0 ≤ z ∧ z ≤ 15) → ∀ i, 0 ≤ l.getD i 0 ∧ l.getD i 0 ≤ 15 := fun l hl i => by
    rcases Nat.lt_or_ge i l.length with hi | hi
    · have e : l.getD i 0 = l[i] := by simp [List.getD, hi]
      rw [e]; exact hl _ (List.getElem_mem hi)
    · have e : l.getD i 0 = 0 := by simp [List.getD, List.getElem?_eq_none hi]
      rw [e]; omega
  have h1 := h fixLs (by decide +kernel)
  have h2 := h fixDs (by decide +kernel)
  exact ⟨fun i => (h1 i).1, fun i => (h1 i).2, fun i => (h2 i).1, fun i => (h2 i).2⟩
/-- The four parts, in a literal. -/
theorem fix_parts (W : World) (b0 b1 b2 b3 : Nat) (h0 : IRow W b0 (List.replicate 144 8)) (h1 : IRow W b1 (List.replicate 112 9)) (h2 : IRow W b2 (List.replicate 24 7)) (h3 : IRow W b3 (List.replicate 8 8)) :
    PartsN (W.alloc (.cells #[.slice (some ⟨b0, 0, none⟩) 144 144, .slice (some ⟨b1, 0, none⟩) 112 112, .slice (some ⟨b2, 0, none⟩) 24 24, .slice (some ⟨b3, 0, none⟩) 8 8] 58)) (W.heap.size + 1) (some ⟨W.heap.size, 0, none⟩) 4 (fun i => if i = 0 then some ⟨b0, 0, none⟩ else if i = 1 then some ⟨b1, 0, none⟩ else if i = 2 then some ⟨b2, 0, none⟩ else some ⟨b3, 0, none⟩) (fun i => if i = 0 then 144 else if i = 1 then 112 else if i = 2 then 24 else 8) (fun i => if i = 0 then 144 else if i = 1 then 112 else if i = 2 then 24 else 8) fixZ := by
  have hb : Below W.heap.size W (W.alloc (.cells #[.slice (some ⟨b0, 0, none⟩) 144 144, .slice (some ⟨b1, 0, none⟩) 112 112, .slice (some ⟨b2, 0, none⟩) 24 24, .slice (some ⟨b3, 0, none⟩) 8 8] 58)) := (Below.refl _ _).alloc (Nat.le_refl _) _
  have hn := heap_alloc_new W (.cells #[.slice (some ⟨b0, 0, none⟩) 144 144, .slice (some ⟨b1, 0, none⟩) 112 112, .slice (some ⟨b2, 0, none⟩) 24 24, .slice (some ⟨b3, 0, none⟩) 8 8] 58)
  refine ⟨fun _ => ⟨W.heap.size, 0, rfl, Nat.lt_succ_self _, fun i hi => ?_⟩, fun i hi => ?_⟩
  · rw [Nat.zero_add, cell_of_row _ W.heap.size i _ 58 (0, 0) hn]
    rcases (show i = 0 ∨ i = 1 ∨ i = 2 ∨ i = 3 by omega) with rfl | rfl | rfl | rfl <;> rfl
  · rcases (show i = 0 ∨ i = 1 ∨ i = 2 ∨ i = 3 by omega) with rfl | rfl | rfl | rfl
    · exact ((h0.nums (by simp)).below hb (Nat.le_refl _)).more1
    · exact ((h1.nums (by simp)).below hb (Nat.le_refl _)).more1
    · exact ((h2.nums (by simp)).below hb (Nat.le_refl _)).more1
    · exact ((h3.nums (by simp)).below hb (Nat.le_refl _)).more1

set_option maxHeartbeats 2000000 in
theorem pfixedPair (w : World) :
    Calls Tryd.prog 48 #[] w fun r w' => ∃ kp hl hd, r = .returned (.pointer (some ⟨kp, 0, none⟩)) ∧ w'.heap[kp]? = some (.cells #[.pointer (some ⟨hl, 0, none⟩), .pointer (some ⟨hd, 0, none⟩)] 97 (0, 0)) ∧
      CB w' hl fixLs ∧ CB w' hd fixDs ∧ Below w.heap.size w w' ∧ w.heap.size ≤ kp ∧ w.heap.size ≤ hl ∧ w.heap.size ≤ hd := by
  have HA : Hid (∀ W : World, Calls Tryd.prog 62 #[.slice (some ⟨W.heap.size, 0, none⟩) 1 1, .int .i64 144] (W.alloc (.cells #[.int .i64 8] 3)) fun e w' => e = .returned (.slice (some ⟨W.heap.size + 1, 0, none⟩) 144 144) ∧ IRow w' (W.heap.size + 1) (List.replicate 144 8) ∧ Below W.heap.size W w') := Lib.hid fun W => rep_lit 8 144 W (by omega) (by omega)
  have HB : Hid (∀ W : World, Calls Tryd.prog 62 #[.slice (some ⟨W.heap.size, 0, none⟩) 1 1, .int .i64 112] (W.alloc (.cells #[.int .i64 9] 3)) fun e w' => e = .returned (.slice (some ⟨W.heap.size + 1, 0, none⟩) 112 112) ∧ IRow w' (W.heap.size + 1) (List.replicate 112 9) ∧ Below W.heap.size W w') := Lib.hid fun W => rep_lit 9 112 W (by omega) (by omega)
  have HC : Hid (∀ W : World, Calls Tryd.prog 62 #[.slice (some ⟨W.heap.size, 0, none⟩) 1 1, .int .i64 24] (W.alloc (.cells #[.int .i64 7] 3)) fun e w' => e = .returned (.slice (some ⟨W.heap.size + 1, 0, none⟩) 24 24) ∧ IRow w' (W.heap.size + 1) (List.replicate 24 7) ∧ Below W.heap.size W w') := Lib.hid fun W => rep_lit 7 24 W (by omega) (by omega)
  have HD : Hid (∀ W : World, Calls Tryd.prog 62 #[.slice (some ⟨W.heap.size, 0, none⟩) 1 1, .int .i64 8] (W.alloc (.cells #[.int .i64 8] 3)) fun e w' => e = .returned (.slice (some ⟨W.heap.size + 1, 0, none⟩) 8 8) ∧ IRow w' (W.heap.size + 1) (List.replicate 8 8) ∧ Below W.heap.size W w') := Lib.hid fun W => rep_lit 8 8 W (by omega) (by omega)
  have HE : Hid (∀ W : World, Calls Tryd.prog 62 #[.slice (some ⟨W.heap.size, 0, none⟩) 1 1, .int .i64 32] (W.alloc (.cells #[.int .i64 5] 3)) fun e w' => e = .returned (.slice (some ⟨W.heap.size + 1, 0, none⟩) 32 32) ∧ IRow w' (W.heap.size + 1) (List.replicate 32 5) ∧ Below W.heap.size W w') := Lib.hid fun W => rep_lit 5 32 W (by omega) (by omega)
  go_enter Tryd.func48, Tryd.ntmps48
  go_wp2_with (first
    | (go_at_call 62; with_reducible refine (HA.out _).mono ?_; rintro e w1 ⟨rfl, hr1, hb1⟩; have HR1 := Lib.hid hr1; have HB1 := Lib.hid hb1; clear hr1 hb1)
    | (go_at_call 62; with_reducible refine (HB.out _).mono ?_; rintro e w2 ⟨rfl, hr2, hb2⟩; have HR2 := Lib.hid hr2; have HB2 := Lib.hid hb2; clear hr2 hb2)
    | (go_at_call 62; with_reducible refine (HC.out _).mono ?_; rintro e w3 ⟨rfl, hr3, hb3⟩; have HR3 := Lib.hid hr3; have HB3 := Lib.hid hb3; clear hr3 hb3)
    | (go_at_call 62; with_reducible refine (HD.out _).mono ?_; rintro e w4 ⟨rfl, hr4, hb4⟩; have HR4 := Lib.hid hr4; have HB4 := Lib.hid hb4; clear hr4 hb4))
  have hI1 : IRow w4 (w.heap.size + 1) (List.replicate 144 8) := ((HR1.out.below HB2.out HR1.out.lt).below (HB3.out.mono HB2.out.size) HR1.out.lt).below (HB4.out.mono (Nat.le_trans HB2.out.size HB3.out.size)) HR1.out.lt
  have hI2 : IRow w4 (w1.heap.size + 1) (List.replicate 112 9) := (HR2.out.below HB3.out HR2.out.lt).below (HB4.out.mono HB3.out.size) HR2.out.lt
  have hI3 : IRow w4 (w2.heap.size + 1) (List.replicate 24 7) := HR3.out.below HB4.out HR3.out.lt
  have hB4 : Below w.heap.size w w4 := HB1.out.trans ((HB2.out.mono HB1.out.size).trans ((HB3.out.mono (Nat.le_trans HB1.out.size HB2.out.size)).trans (HB4.out.mono (Nat.le_trans HB1.out.size (Nat.le_trans HB2.out.size HB3.out.size)))))
  have hsz4 : w.heap.size ≤ w4.heap.size := hB4.size
  have hpt := fix_parts w4 _ _ _ _ hI1 hI2 hI3 HR4.out
  have hcc := concat_ints _ 4 4 _ _ _ _ _ _ hpt (by simp) (by omega) (fun i hi => by
    rcases (show i = 0 ∨ i = 1 ∨ i = 2 ∨ i = 3 by omega) with rfl | rfl | rfl | rfl <;> simp [fixZ])
  rw [fixZ_all, show fixLs.length = 288 by decide +kernel] at hcc
  have HCC := Lib.hid hcc
  have HBB := Lib.hid hB4
  obtain ⟨W4, hW4⟩ : ∃ W4, w4.alloc (.cells #[.slice (some ⟨w.heap.size + 1, 0, none⟩) 144 144, .slice (some ⟨w1.heap.size + 1, 0, none⟩) 112 112, .slice (some ⟨w2.heap.size + 1, 0, none⟩) 24 24, .slice (some ⟨w3.heap.size + 1, 0, none⟩) 8 8] 58) = W4 := ⟨_, rfl⟩
  have hb44 : Below w.heap.size w W4 := by rw [← hW4]; exact hB4.alloc hsz4 _
  rw [hW4] at HCC ⊢
  have HB44 := Lib.hid hb44
  clear hI1 hI2 hI3 hB4 hsz4 hpt hcc hb44 hW4
  have hfl := fix_lens
  have HFL := Lib.hid hfl
  have HMY := Lib.hid may_fix
  clear hfl
  go_wp2_with (first
    | (go_at_call 61; refine HCC.out.mono ?_; rintro e w5 ⟨v5, rfl, hm5, hb5⟩; obtain ⟨A5, c5, hv5, hn5⟩ := hm5.byt; subst hv5; have HB5 := Lib.hid (HB44.out.trans (hb5.mono HB44.out.size)); have HN5 := Lib.hid hn5; have HC5 := Lib.hid (pcode_yes A5 288 c5 _ fixLs w5 hn5 (Nat.le_refl _) (by omega) HFL.out.1 HFL.out.2.1 HMY.out.1); clear hm5 hb5 hn5)
    | (go_at_call 60; with_reducible refine HC5.out.mono ?_; rintro e w6 ⟨rfl, hc6, hb6⟩; have HC6 := Lib.hid hc6; have HB6 := Lib.hid (HB5.out.trans (hb6.mono HB5.out.size)); clear hc6 hb6)
    | (go_at_call 62; with_reducible refine (HE.out _).mono ?_; rintro e w7 ⟨rfl, hr7, hb7⟩; have HB7 := Lib.hid (HB6.out.trans (hb7.mono HB6.out.size)); have HC7a := Lib.hid (HC6.out.same (hb7.block _ HC6.out.lt)); have HC7 := Lib.hid (pcode_yes _ 32 32 _ fixDs w7 (by have h := hr7.nums (n := 32) (by simp); rw [fixDs_all] at h; exact h) (Nat.le_refl _) (by omega) HFL.out.2.2.1 HFL.out.2.2.2 HMY.out.2); clear hr7 hb7)
    | (go_at_call 60; with_reducible refine HC7.out.mono ?_; rintro e w8 ⟨rfl, hc8, hb8⟩; have HC8 := Lib.hid hc8; have HC8a := Lib.hid (HC7a.out.same (hb8.block _ HC7a.out.lt)); have HB8 := Lib.hid (HB7.out.trans (hb8.mono HB7.out.size)); clear hc8 hb8))
  go_ret
  have hb9 := (Below.refl w8.heap.size w8).alloc (Nat.le_refl _) (.cells #[.pointer (some ⟨w5.heap.size, 0, none⟩), .pointer (some ⟨w7.heap.size, 0, none⟩)] 97)
  exact ⟨w8.heap.size, w5.heap.size, w7.heap.size, rfl, heap_alloc_new w8 _, HC8a.out.same (hb9.block _ HC8a.out.lt), HC8.out.same (hb9.block _ HC8.out.lt), HB8.out.trans (hb9.mono HB8.out.size), HB8.out.size, HB5.out.size, HB7.out.size⟩
end Go.Proofs.YtebbakfjjjamkaaDoor
