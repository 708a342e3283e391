/- Contracts of functions that the law calls, and what they lean on (a part). -/
import Derived.Test.YtpomkhcobpihmaaGreatPas37
namespace Go.Proofs.YtpomkhcobpihmaaGreat
section
open Go.RowKit
set_option linter.unusedVariables false
set_option maxRecDepth 100000
theorem box_keep5 {W W' : World} {b g : Nat} {cs : Array Value} {T : TypeId} (h : W.heap[b]? = some (.cells cs T (0, 0))) (ho : Only g W W') (hg : b ≠ g) : W'.heap[b]? = some (.cells cs T (0, 0)) := (ho.block b (row_lt _ _ _ h) hg).trans h
def strEnS : ByteArray := ⟨#[101, 110, 100, 115, 116, 114, 101, 97, 109]⟩
/-- A stream's data: what is wrong, the bytes, where one stands. -/
def dataT (zs : List Int) (p : Nat) (k v : Int) : Int × List Int × Nat :=
  if (lineT zs p).1 ≠ 0 then ((lineT zs p).1, [], (lineT zs p).2)
  else if k ≠ 2 ∨ v < 0 then (4, [], (lineT zs p).2)
  else if (zs.length : Int) - (lineT zs p).2 < v then (2, [], (lineT zs p).2)
  else if (wrdT zs ((lineT zs p).2 + v.toNat) strEnS).1 ≠ 0 then ((wrdT zs ((lineT zs p).2 + v.toNat) strEnS).1, [], (wrdT zs ((lineT zs p).2 + v.toNat) strEnS).2)
  else (0, (zs.drop (lineT zs p).2).take v.toNat, (wrdT zs ((lineT zs p).2 + v.toNat) strEnS).2)
def DtP (m h g : Nat) (A : Option Addr) (n c d : Nat) (zs : List Int) (w : World) (R : Int × List Int × Nat) (r : Ending) (w' : World) : Prop :=
  ∃ (A' : Option Addr) (l c' : Nat), r = .returned (.tuple #[.slice A' l c', .int .i64 R.1]) ∧ Byt w' w'.heap.size A' l c' R.2.1 ∧ From w.heap.size A' l ∧ PX w' m h g A n c d zs R.2.2 ∧ Only g w w'
set_option maxHeartbeats 4000000 in
theorem dataC {w : World} {m h g n c d p : Nat} {A : Option Addr} {zs : List Int} (x : PX w m h g A n c d zs p) (k v : Int) (c2 c3 c4 : Value) :
    Calls Tryz.prog 47 #[.pointer (some ⟨m, 0, none⟩), .agg #[.int .i64 k, .int .i64 v, c2, c3, c4]] w (DtP m h g A n c d zs w (dataT zs p k v)) := by
  unfold dataT
  have hb1 := (Below.refl w.heap.size w).alloc (Nat.le_refl _) (.cells #[.int .i64 k, .int .i64 v, c2, c3, c4] 27)
  have hn1 := heap_alloc_new w (.cells #[.int .i64 k, .int .i64 v, c2, c3, c4] 27)
  obtain ⟨W1, hW1⟩ : ∃ W1, w.alloc (.cells #[.int .i64 k, .int .i64 v, c2, c3, c4] 27) = W1 := ⟨_, rfl⟩
  rw [hW1] at hb1 hn1
  have hx1 := x.low hb1
  have HLN := Lib.hid (lineC hx1)
  have HZL := Lib.hid x.len
  have HSM := Lib.hid x.sm
  have HGW := Lib.hid x.lx.cu.lt
  have HO1 := Lib.hid (Only.of_below hb1 g)
  have HN1 := Lib.hid hn1
  have HW1 := Lib.hid hW1
  have HS1 := Lib.hid hb1.size
  obtain ⟨R1, hR1⟩ : ∃ R1, lineT zs p = R1 := ⟨_, rfl⟩
  rw [hR1] at HLN ⊢
  obtain ⟨E1, L⟩ := R1
  dsimp only at HLN ⊢
  clear hR1 x hx1 hb1 hn1 hW1
  by_cases h1 : E1 = 0
  · subst h1
    rw [if_neg (fun h => h rfl)]
    by_cases h2 : k = 2
    · subst h2
      by_cases h3 : v < 0
      · rw [if_pos (.inr h3)]
        have g3 : decide (v < 0) = true := decide_eq_true h3
        go_enter Tryz.func47, Tryz.ntmps47
        go_upto_region 1 with fail
        rw [HW1.out]
        go_upto_region 4 with (first
          | (go_at_call 67; refine HLN.out.mono ?_; (rintro r w2 ⟨rfl, hx2, ho2⟩); have HX2 := Lib.hid hx2; have HO2 := Lib.hid (HO1.out.trans ho2); have HN2 := Lib.hid (box_keep5 HN1.out ho2 (Nat.ne_of_gt HGW.out)); clear hx2 ho2))
        have q0 := cell_of_row w2 w.heap.size 0 _ _ (0, 0) HN2.out
        have q1 := cell_of_row w2 w.heap.size 1 _ _ (0, 0) HN2.out
        go_wp2_with fail
        go_ret2
        exact ⟨_, _, _, rfl, Byt.none_ _ _, fun h0 => absurd h0 (by omega), HX2.out, HO2.out⟩
      · rw [if_neg (fun h => h.elim (fun h => h rfl) h3)]
        have g3 : decide (v < 0) = false := decide_eq_false h3
        have HTO := Lib.hid (fun W (hW : PX W m h g A n c d zs L) (h : (n : Int) - L < v) => take_out g n c L v A W hW.lx.cu hW.lx.pl (.inr h) (by have := HSM.out; omega))
        by_cases h4 : (zs.length : Int) - L < v
        · rw [if_pos h4]
          have h4n : (n : Int) - L < v := by rw [← HZL.out]; exact h4
          go_enter Tryz.func47, Tryz.ntmps47
          go_upto_region 1 with fail
          rw [HW1.out]
          go_upto_region 4 with (first
            | (go_at_call 67; refine HLN.out.mono ?_; (rintro r w2 ⟨rfl, hx2, ho2⟩); have HX2 := Lib.hid hx2; have HO2 := Lib.hid (HO1.out.trans ho2); have HN2 := Lib.hid (box_keep5 HN1.out ho2 (Nat.ne_of_gt HGW.out)); clear hx2 ho2))
          have q0 := cell_of_row w2 w.heap.size 0 _ _ (0, 0) HN2.out
          have q1 := cell_of_row w2 w.heap.size 1 _ _ (0, 0) HN2.out
          have k2 := HX2.out.k0
          have j2 := HX2.out.lx.k0
          have hst := And.intro k2 (And.intro j2 q1)
          go_upto_region 6 with fail
          refine wp_region_heldR (fun W => W.cell? ⟨m, 0, none⟩ = some (.pointer (some ⟨h, 0, none⟩)) ∧ W.cell? ⟨h, 0, none⟩ = some (.pointer (some ⟨g, 0, none⟩)) ∧ W.cell? ⟨w.heap.size, 1, none⟩ = some (.int .i64 v)) 1000 (by kernel_rfl) ⟨k2, j2, q1⟩ (fun hHeld => ?_)
          refine wpAnyR_take 0 rfl (by kernel_rfl) (by kernel_rfl) (by kernel_rfl) (by kernel_rfl) (fun _ _ _ h => h) (by rfl) (v := ?_) ?_ (by assumption) ?_
          rotate_left
          focus
            intro wS hSw
            (try dsimp only at hSw)
            go_simp
            (try simp only [hSw])
            try with_reducible rfl
          intro hHeld
          try simp only [Act.put, List.setIfInBounds_toArray, List.set_cons_zero, List.set_cons_succ]
          refine wpAnyR_take 1 rfl (by kernel_rfl) (by kernel_rfl) (by kernel_rfl) (by kernel_rfl) (fun _ _ _ h => h) (by rfl) (v := ?_) ?_ (by assumption) ?_
          rotate_left
          focus
            intro wS hSw
            (try dsimp only at hSw)
            go_simp
            (try simp only [hSw])
            try with_reducible rfl
          intro hHeld
          try simp only [Act.put, List.setIfInBounds_toArray, List.set_cons_zero, List.set_cons_succ]
          refine wpAnyR_take 2 rfl (by kernel_rfl) (by kernel_rfl) (by kernel_rfl) (by kernel_rfl) (fun _ _ _ h => h) (by rfl) (v := ?_) ?_ (by assumption) ?_
          rotate_left
          focus
            intro wS hSw
            (try dsimp only at hSw)
            go_simp
            (try simp only [hSw])
            try with_reducible rfl
          intro hHeld
          try simp only [Act.put, List.setIfInBounds_toArray, List.set_cons_zero, List.set_cons_succ]
          refine wpAnyR_take 3 rfl (by kernel_rfl) (by kernel_rfl) (by kernel_rfl) (by kernel_rfl) (fun _ _ _ h => h) (by rfl) (v := ?_) ?_ (by assumption) ?_
          rotate_left
          focus
            intro wS hSw
            (try dsimp only at hSw)
            go_simp
            (try simp only [hSw])
            try with_reducible rfl
          intro hHeld
          try simp only [Act.put, List.setIfInBounds_toArray, List.set_cons_zero, List.set_cons_succ]
          refine wpAnyR_take 4 rfl (by kernel_rfl) (by kernel_rfl) (by kernel_rfl) (by kernel_rfl) (fun _ _ _ h => h) (by rfl) (v := ?_) ?_ (by assumption) ?_
          rotate_left
          focus
            intro wS hSw
            (try dsimp only at hSw)
            go_simp
            (try simp only [hSw])
            try with_reducible rfl
          intro hHeld
          try simp only [Act.put, List.setIfInBounds_toArray, List.set_cons_zero, List.set_cons_succ]
          refine wpAnyR_take 5 rfl (by kernel_rfl) (by kernel_rfl) (by kernel_rfl) (by kernel_rfl) (fun _ _ _ h => h) (by rfl) (v := ?_) ?_ (by assumption) ?_
          rotate_left
          focus
            intro wS hSw
            (try dsimp only at hSw)
            go_simp
            (try simp only [hSw])
            try with_reducible rfl
          intro hHeld
          try simp only [Act.put, List.setIfInBounds_toArray, List.set_cons_zero, List.set_cons_succ]
          refine wpAnyR_take 6 rfl (by kernel_rfl) (by kernel_rfl) (by kernel_rfl) (by kernel_rfl) (fun _ _ _ h => h) (by rfl) (v := ?_) ?_ (by assumption) ?_
          rotate_left
          focus
            intro wS hSw
            (try dsimp only at hSw)
            go_simp
            (try simp only [hSw])
            try with_reducible rfl
          intro hHeld
          try simp only [Act.put, List.setIfInBounds_toArray, List.set_cons_zero, List.set_cons_succ]
          refine wpAnyR_take 7 rfl (by kernel_rfl) (by kernel_rfl) (by kernel_rfl) (by kernel_rfl) (fun _ _ _ h => h) (by rfl) (v := ?_) ?_ (by assumption) ?_
          rotate_left
          focus
            intro wS hSw
            (try dsimp only at hSw)
            go_simp
            (try simp only [hSw])
            try with_reducible rfl
          intro hHeld
          try simp only [Act.put, List.setIfInBounds_toArray, List.set_cons_zero, List.set_cons_succ]
          refine wpAnyR_take 8 rfl (by kernel_rfl) (by kernel_rfl) (by kernel_rfl) (by kernel_rfl) (fun _ _ _ h => h) (by rfl) (v := ?_) ?_ (by assumption) ?_
          rotate_left
          focus
            intro wS hSw
            (try dsimp only at hSw)
            go_simp
            (try simp only [hSw])
            try with_reducible rfl
          intro hHeld
          try simp only [Act.put, List.setIfInBounds_toArray, List.set_cons_zero, List.set_cons_succ]
          refine wpAnyR_step 9 rfl (by kernel_rfl) (fun K hK => ?_)
          go_simp
          go_at_call 68
          refine (HTO.out _ (HX2.out.drewN 1) h4n).mono ?_
          rintro r w3 ⟨rfl, rfl⟩
          go_wp2_with fail
          refine hK.out _ _ hst (fun hHeld => ?_)
          clear hK K
          try simp only [Act.put, List.setIfInBounds_toArray, List.set_cons_zero, List.set_cons_succ]
          refine wpAnyR_take 10 rfl (by kernel_rfl) (by kernel_rfl) (by kernel_rfl) (by kernel_rfl) (fun _ _ _ h => h) (by rfl) (v := ?_) ?_ (by assumption) ?_
          rotate_left
          focus
            intro wS hSw
            (try dsimp only at hSw)
            go_simp
            (try simp only [hSw])
            try with_reducible rfl
          intro hHeld
          try simp only [Act.put, List.setIfInBounds_toArray, List.set_cons_zero, List.set_cons_succ]
          refine wpAnyR_take 11 rfl (by kernel_rfl) (by kernel_rfl) (by kernel_rfl) (by kernel_rfl) (fun _ _ _ h => h) (by rfl) (v := ?_) ?_ (by assumption) ?_
          rotate_left
          focus
            intro wS hSw
            (try dsimp only at hSw)
            go_simp
            (try simp only [hSw])
            try with_reducible rfl
          intro hHeld
          try simp only [Act.put, List.setIfInBounds_toArray, List.set_cons_zero, List.set_cons_succ]
          refine wpAnyR_take 12 rfl (by kernel_rfl) (by kernel_rfl) (by kernel_rfl) (by kernel_rfl) (fun _ _ _ h => h) (by rfl) (v := ?_) ?_ (by assumption) ?_
          rotate_left
          focus
            intro wS hSw
            (try dsimp only at hSw)
            go_simp
            (try simp only [hSw])
            try with_reducible rfl
          intro hHeld
          try simp only [Act.put, List.setIfInBounds_toArray, List.set_cons_zero, List.set_cons_succ]
          refine wpAnyR_take 13 rfl (by kernel_rfl) (by kernel_rfl) (by kernel_rfl) (by kernel_rfl) (fun _ _ _ h => h) (by rfl) (v := ?_) ?_ (by assumption) ?_
          rotate_left
          focus
            intro wS hSw
            (try dsimp only at hSw)
            go_simp
            (try simp only [hSw])
            try with_reducible rfl
          intro hHeld
          try simp only [Act.put, List.setIfInBounds_toArray, List.set_cons_zero, List.set_cons_succ]
          refine wpAnyR_take 14 rfl (by kernel_rfl) (by kernel_rfl) (by kernel_rfl) (by kernel_rfl) (fun _ _ _ h => h) (by rfl) (v := ?_) ?_ (by assumption) ?_
          rotate_left
          focus
            intro wS hSw
            (try dsimp only at hSw)
            go_simp
            (try simp only [hSw])
            try with_reducible rfl
          intro hHeld
          try simp only [Act.put, List.setIfInBounds_toArray, List.set_cons_zero, List.set_cons_succ]
          refine wpAnyR_done (by kernel_rfl) ?_
          refine NoPanic.normal ?_
          go_wp2_with fail
          go_ret2
          exact ⟨_, _, _, rfl, Byt.none_ _ _, fun h0 => absurd h0 (by omega), HX2.out.drewN 1, HO2.out.drewN 1⟩
        · rw [if_neg h4]
          obtain ⟨V, rfl⟩ : ∃ V : Nat, v = (V : Int) := ⟨v.toNat, by omega⟩
          rw [Int.toNat_natCast]
          have hvl : L + V ≤ n := by have := HZL.out; omega
          have HVL := Lib.hid hvl
          have HTI := Lib.hid (fun W (hW : PX W m h g A n c d zs L) => take_in g n c L V g A zs W hW.lx.cu hW.bt hvl (by have := HSM.out; omega) (Nat.le_refl _))
          have HWD := Lib.hid (fun W (hW : PX W m h g A n c d zs (L + V)) => wordC hW strEnS)
          obtain ⟨R3, hR3⟩ : ∃ R3, wrdT zs (L + V) strEnS = R3 := ⟨_, rfl⟩
          simp only [hR3] at HWD ⊢
          obtain ⟨E3, Q3⟩ := R3
          dsimp only at HWD ⊢
          clear hR3 HTO h3 h4
          obtain ⟨Z, hZ⟩ : ∃ Z, (zs.drop L).take V = Z := ⟨_, rfl⟩
          rw [hZ] at HTI ⊢
          clear hZ hvl
          by_cases h5 : E3 = 0
          · subst h5
            rw [if_neg (fun h => h rfl)]
            go_enter Tryz.func47, Tryz.ntmps47
            go_upto_region 1 with fail
            rw [HW1.out]
            go_upto_region 4 with (first
              | (go_at_call 67; refine HLN.out.mono ?_; (rintro r w2 ⟨rfl, hx2, ho2⟩); have HX2 := Lib.hid hx2; have HO2 := Lib.hid (HO1.out.trans ho2); have HN2 := Lib.hid (box_keep5 HN1.out ho2 (Nat.ne_of_gt HGW.out)); clear hx2 ho2))
            have q0 := cell_of_row w2 w.heap.size 0 _ _ (0, 0) HN2.out
            have q1 := cell_of_row w2 w.heap.size 1 _ _ (0, 0) HN2.out
            have k2 := HX2.out.k0
            have j2 := HX2.out.lx.k0
            have hst := And.intro k2 (And.intro j2 q1)
            go_upto_region 6 with fail
            refine wp_region_heldR (fun W => W.cell? ⟨m, 0, none⟩ = some (.pointer (some ⟨h, 0, none⟩)) ∧ W.cell? ⟨h, 0, none⟩ = some (.pointer (some ⟨g, 0, none⟩)) ∧ W.cell? ⟨w.heap.size, 1, none⟩ = some (.int .i64 (V : Int))) 1000 (by kernel_rfl) ⟨k2, j2, q1⟩ (fun hHeld => ?_)
            refine wpAnyR_take 0 rfl (by kernel_rfl) (by kernel_rfl) (by kernel_rfl) (by kernel_rfl) (fun _ _ _ h => h) (by rfl) (v := ?_) ?_ (by assumption) ?_
            rotate_left
            focus
              intro wS hSw
              (try dsimp only at hSw)
              go_simp
              (try simp only [hSw])
              try with_reducible rfl
            intro hHeld
            try simp only [Act.put, List.setIfInBounds_toArray, List.set_cons_zero, List.set_cons_succ]
            refine wpAnyR_take 1 rfl (by kernel_rfl) (by kernel_rfl) (by kernel_rfl) (by kernel_rfl) (fun _ _ _ h => h) (by rfl) (v := ?_) ?_ (by assumption) ?_
            rotate_left
            focus
              intro wS hSw
              (try dsimp only at hSw)
              go_simp
              (try simp only [hSw])
              try with_reducible rfl
            intro hHeld
            try simp only [Act.put, List.setIfInBounds_toArray, List.set_cons_zero, List.set_cons_succ]
            refine wpAnyR_take 2 rfl (by kernel_rfl) (by kernel_rfl) (by kernel_rfl) (by kernel_rfl) (fun _ _ _ h => h) (by rfl) (v := ?_) ?_ (by assumption) ?_
            rotate_left
            focus
              intro wS hSw
              (try dsimp only at hSw)
              go_simp
              (try simp only [hSw])
              try with_reducible rfl
            intro hHeld
            try simp only [Act.put, List.setIfInBounds_toArray, List.set_cons_zero, List.set_cons_succ]
            refine wpAnyR_take 3 rfl (by kernel_rfl) (by kernel_rfl) (by kernel_rfl) (by kernel_rfl) (fun _ _ _ h => h) (by rfl) (v := ?_) ?_ (by assumption) ?_
            rotate_left
            focus
              intro wS hSw
              (try dsimp only at hSw)
              go_simp
              (try simp only [hSw])
              try with_reducible rfl
            intro hHeld
            try simp only [Act.put, List.setIfInBounds_toArray, List.set_cons_zero, List.set_cons_succ]
            refine wpAnyR_take 4 rfl (by kernel_rfl) (by kernel_rfl) (by kernel_rfl) (by kernel_rfl) (fun _ _ _ h => h) (by rfl) (v := ?_) ?_ (by assumption) ?_
            rotate_left
            focus
              intro wS hSw
              (try dsimp only at hSw)
              go_simp
              (try simp only [hSw])
              try with_reducible rfl
            intro hHeld
            try simp only [Act.put, List.setIfInBounds_toArray, List.set_cons_zero, List.set_cons_succ]
            refine wpAnyR_take 5 rfl (by kernel_rfl) (by kernel_rfl) (by kernel_rfl) (by kernel_rfl) (fun _ _ _ h => h) (by rfl) (v := ?_) ?_ (by assumption) ?_
            rotate_left
            focus
              intro wS hSw
              (try dsimp only at hSw)
              go_simp
              (try simp only [hSw])
              try with_reducible rfl
            intro hHeld
            try simp only [Act.put, List.setIfInBounds_toArray, List.set_cons_zero, List.set_cons_succ]
            refine wpAnyR_take 6 rfl (by kernel_rfl) (by kernel_rfl) (by kernel_rfl) (by kernel_rfl) (fun _ _ _ h => h) (by rfl) (v := ?_) ?_ (by assumption) ?_
            rotate_left
            focus
              intro wS hSw
              (try dsimp only at hSw)
              go_simp
              (try simp only [hSw])
              try with_reducible rfl
            intro hHeld
            try simp only [Act.put, List.setIfInBounds_toArray, List.set_cons_zero, List.set_cons_succ]
            refine wpAnyR_take 7 rfl (by kernel_rfl) (by kernel_rfl) (by kernel_rfl) (by kernel_rfl) (fun _ _ _ h => h) (by rfl) (v := ?_) ?_ (by assumption) ?_
            rotate_left
            focus
              intro wS hSw
              (try dsimp only at hSw)
              go_simp
              (try simp only [hSw])
              try with_reducible rfl
            intro hHeld
            try simp only [Act.put, List.setIfInBounds_toArray, List.set_cons_zero, List.set_cons_succ]
            refine wpAnyR_take 8 rfl (by kernel_rfl) (by kernel_rfl) (by kernel_rfl) (by kernel_rfl) (fun _ _ _ h => h) (by rfl) (v := ?_) ?_ (by assumption) ?_
            rotate_left
            focus
              intro wS hSw
              (try dsimp only at hSw)
              go_simp
              (try simp only [hSw])
              try with_reducible rfl
            intro hHeld
            try simp only [Act.put, List.setIfInBounds_toArray, List.set_cons_zero, List.set_cons_succ]
            refine wpAnyR_step 9 rfl (by kernel_rfl) (fun K hK => ?_)
            go_simp
            go_at_call 68
            refine (HTI.out _ (HX2.out.drewN 1)).mono ?_
            rintro r w3 ⟨A3, c3, rfl, hy3, hf3, hcu3, ho3⟩
            have hx3 := (HX2.out.drewN 1).moved ((HX2.out.drewN 1).lx.moved hcu3 ho3 HVL.out) ho3
            have q3 := cell_of_row w3 w.heap.size 1 _ _ (0, 0) (box_keep5 (W := w2.drewN 1) HN2.out ho3 (Nat.ne_of_gt HGW.out))
            have hst3 := And.intro hx3.k0 (And.intro hx3.lx.k0 q3)
            have HX3 := Lib.hid hx3
            have HO3 := Lib.hid ((HO2.out.drewN 1).trans ho3)
            have HY3 := Lib.hid hy3
            have HF3 : Hid (From w2.heap.size A3 V) := Lib.hid hf3
            have HGL : Hid (g < w2.heap.size) := Lib.hid HX2.out.lx.cu.lt
            have HSW := Lib.hid HO2.out.size
            clear hx3 hy3 hf3 hcu3 ho3 k2 j2 q0 q1 hst
            go_wp2_with fail
            refine hK.out _ _ hst3 (fun hHeld => ?_)
            clear hK K
            try simp only [Act.put, List.setIfInBounds_toArray, List.set_cons_zero, List.set_cons_succ]
            refine wpAnyR_take 10 rfl (by kernel_rfl) (by kernel_rfl) (by kernel_rfl) (by kernel_rfl) (fun _ _ _ h => h) (by rfl) (v := ?_) ?_ (by assumption) ?_
            rotate_left
            focus
              intro wS hSw
              (try dsimp only at hSw)
              go_simp
              (try simp only [hSw])
              try with_reducible rfl
            intro hHeld
            try simp only [Act.put, List.setIfInBounds_toArray, List.set_cons_zero, List.set_cons_succ]
            refine wpAnyR_take 11 rfl (by kernel_rfl) (by kernel_rfl) (by kernel_rfl) (by kernel_rfl) (fun _ _ _ h => h) (by rfl) (v := ?_) ?_ (by assumption) ?_
            rotate_left
            focus
              intro wS hSw
              (try dsimp only at hSw)
              go_simp
              (try simp only [hSw])
              try with_reducible rfl
            intro hHeld
            try simp only [Act.put, List.setIfInBounds_toArray, List.set_cons_zero, List.set_cons_succ]
            refine wpAnyR_take 12 rfl (by kernel_rfl) (by kernel_rfl) (by kernel_rfl) (by kernel_rfl) (fun _ _ _ h => h) (by rfl) (v := ?_) ?_ (by assumption) ?_
            rotate_left
            focus
              intro wS hSw
              (try dsimp only at hSw)
              go_simp
              (try simp only [hSw])
              try with_reducible rfl
            intro hHeld
            try simp only [Act.put, List.setIfInBounds_toArray, List.set_cons_zero, List.set_cons_succ]
            refine wpAnyR_take 13 rfl (by kernel_rfl) (by kernel_rfl) (by kernel_rfl) (by kernel_rfl) (fun _ _ _ h => h) (by rfl) (v := ?_) ?_ (by assumption) ?_
            rotate_left
            focus
              intro wS hSw
              (try dsimp only at hSw)
              go_simp
              (try simp only [hSw])
              try with_reducible rfl
            intro hHeld
            try simp only [Act.put, List.setIfInBounds_toArray, List.set_cons_zero, List.set_cons_succ]
            refine wpAnyR_take 14 rfl (by kernel_rfl) (by kernel_rfl) (by kernel_rfl) (by kernel_rfl) (fun _ _ _ h => h) (by rfl) (v := ?_) ?_ (by assumption) ?_
            rotate_left
            focus
              intro wS hSw
              (try dsimp only at hSw)
              go_simp
              (try simp only [hSw])
              try with_reducible rfl
            intro hHeld
            try simp only [Act.put, List.setIfInBounds_toArray, List.set_cons_zero, List.set_cons_succ]
            refine wpAnyR_done (by kernel_rfl) ?_
            refine NoPanic.normal ?_
            clear hst3 q3
            go_wp2_with (first
              | (go_at_call 29; refine (HWD.out _ HX3.out).mono ?_; (rintro r w5 ⟨rfl, hx5, ho5⟩); have HX5 := Lib.hid hx5; have HY5 := Lib.hid ((HY3.out.onlyF ho5 HF3.out HGL.out (Nat.le_refl _)).more ho5.size); have HO5 := Lib.hid (HO3.out.trans ho5); clear hx5 ho5))
            go_ret2
            exact ⟨_, _, _, rfl, HY5.out, fun h0 b o e => Nat.le_trans HSW.out (HF3.out h0 b o e), HX5.out, HO5.out⟩
          · rw [if_pos h5]
            have h5b : (E3 == 0) = false := beq_eq_false_iff_ne.2 h5
            clear h5
            go_enter Tryz.func47, Tryz.ntmps47
            go_upto_region 1 with fail
            rw [HW1.out]
            go_upto_region 4 with (first
              | (go_at_call 67; refine HLN.out.mono ?_; (rintro r w2 ⟨rfl, hx2, ho2⟩); have HX2 := Lib.hid hx2; have HO2 := Lib.hid (HO1.out.trans ho2); have HN2 := Lib.hid (box_keep5 HN1.out ho2 (Nat.ne_of_gt HGW.out)); clear hx2 ho2))
            have q0 := cell_of_row w2 w.heap.size 0 _ _ (0, 0) HN2.out
            have q1 := cell_of_row w2 w.heap.size 1 _ _ (0, 0) HN2.out
            have k2 := HX2.out.k0
            have j2 := HX2.out.lx.k0
            have hst := And.intro k2 (And.intro j2 q1)
            go_upto_region 6 with fail
            refine wp_region_heldR (fun W => W.cell? ⟨m, 0, none⟩ = some (.pointer (some ⟨h, 0, none⟩)) ∧ W.cell? ⟨h, 0, none⟩ = some (.pointer (some ⟨g, 0, none⟩)) ∧ W.cell? ⟨w.heap.size, 1, none⟩ = some (.int .i64 (V : Int))) 1000 (by kernel_rfl) ⟨k2, j2, q1⟩ (fun hHeld => ?_)
            refine wpAnyR_take 0 rfl (by kernel_rfl) (by kernel_rfl) (by kernel_rfl) (by kernel_rfl) (fun _ _ _ h => h) (by rfl) (v := ?_) ?_ (by assumption) ?_
            rotate_left
            focus
              intro wS hSw
              (try dsimp only at hSw)
              go_simp
              (try simp only [hSw])
              try with_reducible rfl
            intro hHeld
            try simp only [Act.put, List.setIfInBounds_toArray, List.set_cons_zero, List.set_cons_succ]
            refine wpAnyR_take 1 rfl (by kernel_rfl) (by kernel_rfl) (by kernel_rfl) (by kernel_rfl) (fun _ _ _ h => h) (by rfl) (v := ?_) ?_ (by assumption) ?_
            rotate_left
            focus
              intro wS hSw
              (try dsimp only at hSw)
              go_simp
              (try simp only [hSw])
              try with_reducible rfl
            intro hHeld
            try simp only [Act.put, List.setIfInBounds_toArray, List.set_cons_zero, List.set_cons_succ]
            refine wpAnyR_take 2 rfl (by kernel_rfl) (by kernel_rfl) (by kernel_rfl) (by kernel_rfl) (fun _ _ _ h => h) (by rfl) (v := ?_) ?_ (by assumption) ?_
            rotate_left
            focus
              intro wS hSw
              (try dsimp only at hSw)
              go_simp
              (try simp only [hSw])
              try with_reducible rfl
            intro hHeld
            try simp only [Act.put, List.setIfInBounds_toArray, List.set_cons_zero, List.set_cons_succ]
            refine wpAnyR_take 3 rfl (by kernel_rfl) (by kernel_rfl) (by kernel_rfl) (by kernel_rfl) (fun _ _ _ h => h) (by rfl) (v := ?_) ?_ (by assumption) ?_
            rotate_left
            focus
              intro wS hSw
              (try dsimp only at hSw)
              go_simp
              (try simp only [hSw])
              try with_reducible rfl
            intro hHeld
            try simp only [Act.put, List.setIfInBounds_toArray, List.set_cons_zero, List.set_cons_succ]
            refine wpAnyR_take 4 rfl (by kernel_rfl) (by kernel_rfl) (by kernel_rfl) (by kernel_rfl) (fun _ _ _ h => h) (by rfl) (v := ?_) ?_ (by assumption) ?_
            rotate_left
            focus
              intro wS hSw
              (try dsimp only at hSw)
              go_simp
              (try simp only [hSw])
              try with_reducible rfl
            intro hHeld
            try simp only [Act.put, List.setIfInBounds_toArray, List.set_cons_zero, List.set_cons_succ]
            refine wpAnyR_take 5 rfl (by kernel_rfl) (by kernel_rfl) (by kernel_rfl) (by kernel_rfl) (fun _ _ _ h => h) (by rfl) (v := ?_) ?_ (by assumption) ?_
            rotate_left
            focus
              intro wS hSw
              (try dsimp only at hSw)
              go_simp
              (try simp only [hSw])
              try with_reducible rfl
            intro hHeld
            try simp only [Act.put, List.setIfInBounds_toArray, List.set_cons_zero, List.set_cons_succ]
            refine wpAnyR_take 6 rfl (by kernel_rfl) (by kernel_rfl) (by kernel_rfl) (by kernel_rfl) (fun _ _ _ h => h) (by rfl) (v := ?_) ?_ (by assumption) ?_
            rotate_left
            focus
              intro wS hSw
              (try dsimp only at hSw)
              go_simp
              (try simp only [hSw])
              try with_reducible rfl
            intro hHeld
            try simp only [Act.put, List.setIfInBounds_toArray, List.set_cons_zero, List.set_cons_succ]
            refine wpAnyR_take 7 rfl (by kernel_rfl) (by kernel_rfl) (by kernel_rfl) (by kernel_rfl) (fun _ _ _ h => h) (by rfl) (v := ?_) ?_ (by assumption) ?_
            rotate_left
            focus
              intro wS hSw
              (try dsimp only at hSw)
              go_simp
              (try simp only [hSw])
              try with_reducible rfl
            intro hHeld
            try simp only [Act.put, List.setIfInBounds_toArray, List.set_cons_zero, List.set_cons_succ]
            refine wpAnyR_take 8 rfl (by kernel_rfl) (by kernel_rfl) (by kernel_rfl) (by kernel_rfl) (fun _ _ _ h => h) (by rfl) (v := ?_) ?_ (by assumption) ?_
            rotate_left
            focus
              intro wS hSw
              (try dsimp only at hSw)
              go_simp
              (try simp only [hSw])
              try with_reducible rfl
            intro hHeld
            try simp only [Act.put, List.setIfInBounds_toArray, List.set_cons_zero, List.set_cons_succ]
            refine wpAnyR_step 9 rfl (by kernel_rfl) (fun K hK => ?_)
            go_simp
            go_at_call 68
            refine (HTI.out _ (HX2.out.drewN 1)).mono ?_
            rintro r w3 ⟨A3, c3, rfl, hy3, hf3, hcu3, ho3⟩
            have hx3 := (HX2.out.drewN 1).moved ((HX2.out.drewN 1).lx.moved hcu3 ho3 HVL.out) ho3
            have q3 := cell_of_row w3 w.heap.size 1 _ _ (0, 0) (box_keep5 (W := w2.drewN 1) HN2.out ho3 (Nat.ne_of_gt HGW.out))
            have hst3 := And.intro hx3.k0 (And.intro hx3.lx.k0 q3)
            have HX3 := Lib.hid hx3
            have HO3 := Lib.hid ((HO2.out.drewN 1).trans ho3)
            have HY3 := Lib.hid hy3
            have HF3 : Hid (From w2.heap.size A3 V) := Lib.hid hf3
            have HGL : Hid (g < w2.heap.size) := Lib.hid HX2.out.lx.cu.lt
            have HSW := Lib.hid HO2.out.size
            clear hx3 hy3 hf3 hcu3 ho3 k2 j2 q0 q1 hst
            go_wp2_with fail
            refine hK.out _ _ hst3 (fun hHeld => ?_)
            clear hK K
            try simp only [Act.put, List.setIfInBounds_toArray, List.set_cons_zero, List.set_cons_succ]
            refine wpAnyR_take 10 rfl (by kernel_rfl) (by kernel_rfl) (by kernel_rfl) (by kernel_rfl) (fun _ _ _ h => h) (by rfl) (v := ?_) ?_ (by assumption) ?_
            rotate_left
            focus
              intro wS hSw
              (try dsimp only at hSw)
              go_simp
              (try simp only [hSw])
              try with_reducible rfl
            intro hHeld
            try simp only [Act.put, List.setIfInBounds_toArray, List.set_cons_zero, List.set_cons_succ]
            refine wpAnyR_take 11 rfl (by kernel_rfl) (by kernel_rfl) (by kernel_rfl) (by kernel_rfl) (fun _ _ _ h => h) (by rfl) (v := ?_) ?_ (by assumption) ?_
            rotate_left
            focus
              intro wS hSw
              (try dsimp only at hSw)
              go_simp
              (try simp only [hSw])
              try with_reducible rfl
            intro hHeld
            try simp only [Act.put, List.setIfInBounds_toArray, List.set_cons_zero, List.set_cons_succ]
            refine wpAnyR_take 12 rfl (by kernel_rfl) (by kernel_rfl) (by kernel_rfl) (by kernel_rfl) (fun _ _ _ h => h) (by rfl) (v := ?_) ?_ (by assumption) ?_
            rotate_left
            focus
              intro wS hSw
              (try dsimp only at hSw)
              go_simp
              (try simp only [hSw])
              try with_reducible rfl
            intro hHeld
            try simp only [Act.put, List.setIfInBounds_toArray, List.set_cons_zero, List.set_cons_succ]
            refine wpAnyR_take 13 rfl (by kernel_rfl) (by kernel_rfl) (by kernel_rfl) (by kernel_rfl) (fun _ _ _ h => h) (by rfl) (v := ?_) ?_ (by assumption) ?_
            rotate_left
            focus
              intro wS hSw
              (try dsimp only at hSw)
              go_simp
              (try simp only [hSw])
              try with_reducible rfl
            intro hHeld
            try simp only [Act.put, List.setIfInBounds_toArray, List.set_cons_zero, List.set_cons_succ]
            refine wpAnyR_take 14 rfl (by kernel_rfl) (by kernel_rfl) (by kernel_rfl) (by kernel_rfl) (fun _ _ _ h => h) (by rfl) (v := ?_) ?_ (by assumption) ?_
            rotate_left
            focus
              intro wS hSw
              (try dsimp only at hSw)
              go_simp
              (try simp only [hSw])
              try with_reducible rfl
            intro hHeld
            try simp only [Act.put, List.setIfInBounds_toArray, List.set_cons_zero, List.set_cons_succ]
            refine wpAnyR_done (by kernel_rfl) ?_
            refine NoPanic.normal ?_
            clear hst3 q3
            go_wp2_with (first
              | (go_at_call 29; refine (HWD.out _ HX3.out).mono ?_; (rintro r w5 ⟨rfl, hx5, ho5⟩); have HX5 := Lib.hid hx5; have HY5 := Lib.hid ((HY3.out.onlyF ho5 HF3.out HGL.out (Nat.le_refl _)).more ho5.size); have HO5 := Lib.hid (HO3.out.trans ho5); clear hx5 ho5))
            go_ret2
            exact ⟨_, _, _, rfl, Byt.none_ _ _, fun h0 => absurd h0 (by omega), HX5.out, HO5.out⟩
    · rw [if_pos (.inl h2)]
      have h2b : (k == 2) = false := beq_eq_false_iff_ne.2 h2
      have h2n : (k != 2) = true := by rw [bne, h2b]; rfl
      clear h2
      go_enter Tryz.func47, Tryz.ntmps47
      go_upto_region 1 with fail
      rw [HW1.out]
      go_upto_region 4 with (first
        | (go_at_call 67; refine HLN.out.mono ?_; (rintro r w2 ⟨rfl, hx2, ho2⟩); have HX2 := Lib.hid hx2; have HO2 := Lib.hid (HO1.out.trans ho2); have HN2 := Lib.hid (box_keep5 HN1.out ho2 (Nat.ne_of_gt HGW.out)); clear hx2 ho2))
      have q0 := cell_of_row w2 w.heap.size 0 _ _ (0, 0) HN2.out
      have q1 := cell_of_row w2 w.heap.size 1 _ _ (0, 0) HN2.out
      go_wp2_with fail
      go_ret2
      exact ⟨_, _, _, rfl, Byt.none_ _ _, fun h0 => absurd h0 (by omega), HX2.out, HO2.out⟩
  · rw [if_pos h1]
    have h1b : (E1 == 0) = false := beq_eq_false_iff_ne.2 h1
    clear h1
    go_enter Tryz.func47, Tryz.ntmps47
    go_upto_region 1 with fail
    rw [HW1.out]
    go_wp2_with (first
      | (go_at_call 67; refine HLN.out.mono ?_; (rintro r w2 ⟨rfl, hx2, ho2⟩); have HX2 := Lib.hid hx2; have HO2 := Lib.hid (HO1.out.trans ho2); clear hx2 ho2))
    go_ret2
    exact ⟨_, _, _, rfl, Byt.none_ _ _, fun h0 => absurd h0 (by omega), HX2.out, HO2.out⟩
end
end Go.Proofs.YtpomkhcobpihmaaGreat
