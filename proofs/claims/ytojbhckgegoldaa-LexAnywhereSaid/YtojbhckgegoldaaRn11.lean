/- Chapter 11, the document's own lexer: regular signs in a row, numbers. -/
import Derived.Test.YtojbhckgegoldaaRb11
namespace Go.Proofs.Ytojbhckgegoldaa
open Go.RowKit
set_option linter.unusedVariables false
set_option maxRecDepth 100000

set_option maxHeartbeats 4000000 in
theorem rrunC (m n c p B : Nat) (T : TypeId) (X : List Value) (A : Option Addr) (zs : List Int) (w : World) (h : LD w m T X A n c p) (hb : Byt w B A n c zs) (hB : B ≤ m) (hn : n ≤ 1000000) (hp : p ≤ n) :
    Calls Try.prog 54 #[.pointer (some ⟨m, 0, none⟩)] w fun e w' => ∃ v, e = .returned v ∧ Mine w' w.heap.size v (rowZ regB (zs.drop p)) ((zs.drop p).take (rowZ regB (zs.drop p))) ∧ LD w' m T X A n c (p + rowZ regB (zs.drop p)) ∧ Only m w w' := by
  have HX := Lib.hid h
  have HX0 := Lib.hid h
  have HO : Hid (Only m w w) := Lib.hid (Only.refl m w)
  have HB := Lib.hid hb
  have HL := Lib.hid hb.len
  have HC := Lib.hid hb.cap
  have HMW := Lib.hid h.lt
  have HPP := Lib.hid (fun q (hq : q ≤ n) W (hW : LD W m T X A n c q) (ho : Only m w W) => rpk0 m n c q B T X A zs w W hW ho hb hB (Nat.le_of_lt h.lt) hn (by omega))
  have c1 := h.c1
  clear h hb
  go_enter Try.func54, Try.ntmps54
  go_wp2_with fail
  go_loopg [] (n + 1) (fun gk wr => ∃ q : Nat, Hid (LD wr m T X A n c q) ∧ Hid (Only m w wr) ∧ Hid (p ≤ q ∧ q ≤ n ∧ q + rowZ regB (zs.drop q) = p + rowZ regB (zs.drop p)) ∧ Hid (n < gk + q))
  case atStart => exact ⟨p, HX, HO, Lib.hid ⟨Nat.le_refl _, hp, rfl⟩, Lib.hid (by omega)⟩
  case round =>
    obtain ⟨q, HX, HO, HE, HG⟩ := hrel
    have HP0 := Lib.hid (HPP.out q HE.out.2.1)
    obtain ⟨y, hy⟩ : ∃ y, peekZ zs (q : Int) = y := ⟨_, rfl⟩
    rw [hy] at HP0
    have HY := Lib.hid hy
    have HRG := Lib.hid (fun W => rregC y W)
    have w1 : IntKind.i64.wrap ((q : Int) + 1) = (q : Int) + 1 := IntWalk.i64_in _ (by have := HE.out; omega)
    clear hy
    rcases hc : regB y with _ | _
    · rw [hc] at HRG
      have HEE : Hid (q = p + rowZ regB (zs.drop p)) := Lib.hid (by
        have h1 := row_out regB zs q (by rw [HY.out]; exact hc)
        have h2 := HE.out.2.2
        omega)
      clear hc
      go_upto_region 4 with (first
        | (go_at_call 37; (with_reducible refine (HP0.out _ HX.out HO.out).mono ?_); (rintro r wa ⟨rfl, hxa, hoa⟩); (try dsimp only); have HX := Lib.hid hxa; have HO := Lib.hid hoa; have c1 := hxa.c1; have cf := hxa.fr 1; clear hxa hoa)
        | (go_at_call 23; refine (HRG.out _).mono ?_; (rintro r w7 ⟨rfl, rfl⟩); (try dsimp only)))
      have c0 := HX.out.c0
      have hsl := fun W => run_cut (P := Try.prog) W 25 5 Try.underlying25 (fun w => by kernel_rfl) A n c p q HE.out.1 (by have h1 := HE.out.2.1; have h2 := HC.out; omega)
      have HBQ := Lib.hid (((HB.out.only HO.out hB (Nat.le_of_lt HMW.out)).drewN 1).cut (l := p) (m := q - p) (by have h1 := HE.out; omega))
      have HSZ := Lib.hid (show B ≤ wa.heap.size by have h1 := HMW.out; have h2 := HO.out.size; omega)
      have HCP := Lib.hid (refCopy (cutA A c p) (q - p) (c - p) ((zs.drop p).take (q - p)) (wa.drewN 1) (HBQ.out.more (by exact HSZ.out)) (by have h1 := HE.out; omega))
      refine wp_region_heldR (fun w' => w'.cell? ⟨m, 0, none⟩ = some (.slice A n c) ∧ w'.cell? ⟨m, 1, none⟩ = some (.int .i64 q)) 1000 (by kernel_rfl) ⟨c0, c1⟩ (fun hHeld => ?_)
      refine wpAnyR_take 0 rfl (by kernel_rfl) (by kernel_rfl) (by kernel_rfl) (by kernel_rfl) (fun _ _ _ h => h) (by rfl) (v := ?_) ?_ (by assumption) ?_
      rotate_left
      focus
        intro wS hSw
        (try dsimp only at hSw)
        go_simp
        (try simp only [hSw])
        try with_reducible rfl
      intro hHeld
      try simp only [Act.put, List.setIfInBounds_toArray, List.set_cons_zero, List.set_cons_succ]
      refine wpAnyR_take 1 rfl (by kernel_rfl) (by kernel_rfl) (by kernel_rfl) (by kernel_rfl) (fun _ _ _ h => h) (by rfl) (v := ?_) ?_ (by assumption) ?_
      rotate_left
      focus
        intro wS hSw
        (try dsimp only at hSw)
        go_simp
        (try simp only [hSw])
        try with_reducible rfl
      intro hHeld
      try simp only [Act.put, List.setIfInBounds_toArray, List.set_cons_zero, List.set_cons_succ]
      refine wpAnyR_take 2 rfl (by kernel_rfl) (by kernel_rfl) (by kernel_rfl) (by kernel_rfl) (fun _ _ _ h => h) (by rfl) (v := ?_) ?_ (by assumption) ?_
      rotate_left
      focus
        intro wS hSw
        (try dsimp only at hSw)
        go_simp
        (try simp only [hSw])
        try with_reducible rfl
      intro hHeld
      try simp only [Act.put, List.setIfInBounds_toArray, List.set_cons_zero, List.set_cons_succ]
      refine wpAnyR_take 3 rfl (by kernel_rfl) (by kernel_rfl) (by kernel_rfl) (by kernel_rfl) (fun _ _ _ h => h) (by rfl) (v := ?_) ?_ (by assumption) ?_
      rotate_left
      focus
        intro wS hSw
        (try dsimp only at hSw)
        go_simp
        (try simp only [hSw])
        try with_reducible rfl
      intro hHeld
      try simp only [Act.put, List.setIfInBounds_toArray, List.set_cons_zero, List.set_cons_succ]
      refine wpAnyR_take 4 rfl (by kernel_rfl) (by kernel_rfl) (by kernel_rfl) (by kernel_rfl) (fun _ _ _ h => h) (by rfl) (v := ?_) ?_ (by assumption) ?_
      rotate_left
      focus
        intro wS hSw
        (try dsimp only at hSw)
        go_simp
        (try simp only [hSw])
        try with_reducible rfl
      intro hHeld
      try simp only [Act.put, List.setIfInBounds_toArray, List.set_cons_zero, List.set_cons_succ]
      refine wpAnyR_take 5 rfl (by kernel_rfl) (by kernel_rfl) (by kernel_rfl) (by kernel_rfl) (fun _ _ _ h => h) (by rfl) (v := ?_) ?_ (by assumption) ?_
      rotate_left
      focus
        intro wS hSw
        (try dsimp only at hSw)
        go_simp
        (try simp only [hSw])
        try with_reducible rfl
      intro hHeld
      try simp only [Act.put, List.setIfInBounds_toArray, List.set_cons_zero, List.set_cons_succ]
      refine wpAnyR_take 6 rfl (by kernel_rfl) (by kernel_rfl) (by kernel_rfl) (by kernel_rfl) (fun _ _ _ h => h) (by rfl) (v := ?_) ?_ (by assumption) ?_
      rotate_left
      focus
        intro wS hSw
        (try dsimp only at hSw)
        go_simp
        (try simp only [hSw])
        try with_reducible rfl
      intro hHeld
      try simp only [Act.put, List.setIfInBounds_toArray, List.set_cons_zero, List.set_cons_succ]
      refine wpAnyR_take 7 rfl (by kernel_rfl) (by kernel_rfl) (by kernel_rfl) (by kernel_rfl) (fun _ _ _ h => h) (by rfl) (v := ?_) ?_ (by assumption) ?_
      rotate_left
      focus
        intro wS hSw
        (try dsimp only at hSw)
        go_simp
        (try simp only [hSw])
        try with_reducible rfl
      intro hHeld
      try simp only [Act.put, List.setIfInBounds_toArray, List.set_cons_zero, List.set_cons_succ]
      refine wpAnyR_take 8 rfl (by kernel_rfl) (by kernel_rfl) (by kernel_rfl) (by kernel_rfl) (fun _ _ _ h => h) (by rfl) (v := ?_) ?_ (by assumption) ?_
      rotate_left
      focus
        intro wS hSw
        (try dsimp only at hSw)
        go_simp
        (try simp only [hSw])
        try with_reducible rfl
      intro hHeld
      try simp only [Act.put, List.setIfInBounds_toArray, List.set_cons_zero, List.set_cons_succ]
      refine wpAnyR_take 9 rfl (by kernel_rfl) (by kernel_rfl) (by kernel_rfl) (by kernel_rfl) (fun _ _ _ h => h) (by rfl) (v := ?_) ?_ (by assumption) ?_
      rotate_left
      focus
        intro wS hSw
        (try dsimp only at hSw)
        go_simp
        (try simp only [hSw])
        try with_reducible rfl
      intro hHeld
      try simp only [Act.put, List.setIfInBounds_toArray, List.set_cons_zero, List.set_cons_succ]
      refine wpAnyR_step 10 rfl (by kernel_rfl) (fun K hK => ?_)
      go_simp
      go_at_call 71
      refine HCP.out.mono ?_
      rintro r w5 ⟨v, rfl, hm5, hb5⟩
      have HX5 := Lib.hid ((HX.out.drewN 1).below hb5 (HX.out.drewN 1).lt)
      have HM5 := Lib.hid hm5
      have HO5 := Lib.hid ((HO.out.drewN 1).trans (Only.of_below hb5 m))
      clear hm5 hb5
      refine hK.out _ _ (⟨HX5.out.c0, HX5.out.c1⟩) (fun hHeld => ?_)
      clear hK K
      try simp only [Act.put, List.setIfInBounds_toArray, List.set_cons_zero, List.set_cons_succ]
      refine wpAnyR_take 11 rfl (by kernel_rfl) (by kernel_rfl) (by kernel_rfl) (by kernel_rfl) (fun _ _ _ h => h) (by rfl) (v := ?_) ?_ (by assumption) ?_
      rotate_left
      focus
        intro wS hSw
        (try dsimp only at hSw)
        go_simp
        (try simp only [hSw])
        try with_reducible rfl
      intro hHeld
      try simp only [Act.put, List.setIfInBounds_toArray, List.set_cons_zero, List.set_cons_succ]
      refine wpAnyR_done (by kernel_rfl) ?_
      refine NoPanic.normal ?_
      go_wp2_with fail
      go_ret
      have hk : q - p = rowZ regB (zs.drop p) := by have := HEE.out; omega
      have hm := HM5.out
      rw [hk] at hm
      refine ⟨_, rfl, hm.weak8 (by have h1 := HO.out.size; show w.heap.size ≤ wa.heap.size; exact h1), ?_, HO5.out⟩
      have hx := HX5.out
      rw [HEE.out] at hx
      exact hx
    · rw [hc] at HRG
      have HIN := Lib.hid (row_in regB (by decide) zs q (by rw [HY.out]; exact hc))
      clear hc
      go_wp2_with (first
        | (go_at_call 37; (with_reducible refine (HP0.out _ HX.out HO.out).mono ?_); (rintro r wa ⟨rfl, hxa, hoa⟩); (try dsimp only); have HX := Lib.hid hxa; have HO := Lib.hid hoa; have c1 := hxa.c1; have cf := hxa.fr 1; clear hxa hoa)
        | (go_at_call 23; refine (HRG.out _).mono ?_; (rintro r w7 ⟨rfl, rfl⟩); (try dsimp only)))
      have hqn : q < n := by have h1 := HIN.out.1; have h2 := HL.out; omega
      have HQN := Lib.hid hqn
      clear hqn
      go_roundg (gk - 1)
      case rel => exact ⟨q + 1, Lib.hid (HX.out.setI (q + 1) _ (by omega)), Lib.hid (HO.out.set_ 1 _), Lib.hid ⟨by have := HE.out.1; omega, by have := HQN.out; omega, by have h1 := HIN.out.2; have h2 := HE.out.2.2; omega⟩, Lib.hid (by have := HG.out; have := HQN.out; omega)⟩
      case measure => have := HG.out; have := HQN.out; omega
end Go.Proofs.Ytojbhckgegoldaa
