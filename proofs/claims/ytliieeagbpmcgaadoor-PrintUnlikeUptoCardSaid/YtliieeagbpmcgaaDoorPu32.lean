/- Contracts of functions that the law calls, and what they lean on (a part). -/
import Derived.Test.YtliieeagbpmcgaaDoorPu30
import Derived.Test.YtliieeagbpmcgaaDoorPu31
namespace Go.Proofs.YtliieeagbpmcgaaDoor
section
open Go.RowKit
set_option linter.unusedVariables false
set_option maxRecDepth 100000
set_option maxHeartbeats 4000000 in
theorem same_oth (N : Nat) (hIH : SameIH N) (k n : Int) (b : List Int) (l : Obs) (d : Ens) (hN : (Ob.mk k n b l d).sz ≤ N + 1) (k2 n2 : Int) (b2 : List Int) (l2 : Obs) (d2 : Ens) (hkk : k = k2) (h1 : ¬ (k = 1 ∨ k = 2 ∨ k = 3 ∨ k = 9)) (h2 : ¬ (k = 4 ∨ k = 5)) (h3 : ¬ k = 6) (hc : ¬ (k = 7 ∨ k = 8)) (S : Nat → Prop) (w : World) (c0 c1 c2 c3 c4 e0 e1 e2 e3 e4 : Value) (hx : ObR w S (.mk k n b l d) c0 c1 c2 c3 c4) (hy : ObR w S (.mk k2 n2 b2 l2 d2) e0 e1 e2 e3 e4) (hS : ∀ g, S g → g < w.heap.size) :
    Calls Tryd.prog 8 #[.agg #[c0, c1, c2, c3, c4], .agg #[e0, e1, e2, e3, e4]] w fun r w' => r = .returned (.bool (sameO (.mk k n b l d) (.mk k2 n2 b2 l2 d2))) ∧ Below w.heap.size w w' := by
  have IH := Lib.hid hIH
  clear hIH
  unfold ObR at hx hy
  obtain ⟨rfl, rfl, hk, hn, ⟨AB, mb, cb, rfl, hB⟩, ⟨AL, cL, rfl, hlc, hl⟩, ⟨AD, cD, rfl, hdc, hd⟩⟩ := hx
  obtain ⟨rfl, rfl, hk2, hn2, ⟨AB2, mb2, cb2, rfl, hB2⟩, ⟨AL2, cL2, rfl, hlc2, hl2⟩, ⟨AD2, cD2, rfl, hdc2, hd2⟩⟩ := hy
  rw [Ob.sz] at hN
  rw [sameO]
  obtain ⟨LL, hLL⟩ : ∃ LL, l.len = LL := ⟨_, rfl⟩
  obtain ⟨DD, hDD⟩ : ∃ DD, d.len = DD := ⟨_, rfl⟩
  obtain ⟨LL2, hLL2⟩ : ∃ LL, l2.len = LL := ⟨_, rfl⟩
  obtain ⟨DD2, hDD2⟩ : ∃ DD, d2.len = DD := ⟨_, rfl⟩
  rw [hLL] at hlc ⊢
  rw [hDD] at hdc ⊢
  rw [hLL2] at hlc2 ⊢
  rw [hDD2] at hdc2 ⊢
  have hb1 := (Below.refl w.heap.size w).alloc (Nat.le_refl _) (.cells #[.int .i64 k, .int .i64 n, .slice AB mb cb, .slice AL LL cL, .slice AD DD cD] 26)
  have hnew := heap_alloc_new w (.cells #[.int .i64 k, .int .i64 n, .slice AB mb cb, .slice AL LL cL, .slice AD DD cD] 26)
  obtain ⟨W0, hW0⟩ : ∃ W1, w.alloc (.cells #[.int .i64 k, .int .i64 n, .slice AB mb cb, .slice AL LL cL, .slice AD DD cD] 26) = W1 := ⟨_, rfl⟩
  have hs0 : W0.heap.size = w.heap.size + 1 := by rw [← hW0]; simp
  rw [hW0] at hb1 hnew
  have hb2 := (Below.refl W0.heap.size W0).alloc (Nat.le_refl _) (.cells #[.int .i64 k2, .int .i64 n2, .slice AB2 mb2 cb2, .slice AL2 LL2 cL2, .slice AD2 DD2 cD2] 26)
  have hnew2 := heap_alloc_new W0 (.cells #[.int .i64 k2, .int .i64 n2, .slice AB2 mb2 cb2, .slice AL2 LL2 cL2, .slice AD2 DD2 cD2] 26)
  obtain ⟨W1, hW1⟩ : ∃ W1, W0.alloc (.cells #[.int .i64 k2, .int .i64 n2, .slice AB2 mb2 cb2, .slice AL2 LL2 cL2, .slice AD2 DD2 cD2] 26) = W1 := ⟨_, rfl⟩
  have hs1 : W1.heap.size = w.heap.size + 2 := by rw [← hW1]; simp; omega
  rw [hW1] at hb2 hnew2
  rw [hs0] at hnew2
  have hnew1 := (hb2.block w.heap.size (by omega)).trans hnew
  have HCHAIN : Hid (∀ wr, Below W1.heap.size W1 wr → Below w.heap.size w wr ∧ wr.heap[w.heap.size]? = some (.cells #[.int .i64 k, .int .i64 n, .slice AB mb cb, .slice AL LL cL, .slice AD DD cD] 26 (0, 0)) ∧ wr.heap[w.heap.size + 1]? = some (.cells #[.int .i64 k2, .int .i64 n2, .slice AB2 mb2 cb2, .slice AL2 LL2 cL2, .slice AD2 DD2 cD2] 26 (0, 0))) := Lib.hid fun wr h => ⟨(hb1.trans (hb2.mono (by omega))).trans (h.mono (by omega)), (h.block w.heap.size (by omega)).trans hnew1, (h.block (w.heap.size + 1) (by omega)).trans hnew2⟩
  have m0 : W1.cell? ⟨w.heap.size, 0, none⟩ = some (.int .i64 k) := cell_of_row _ _ 0 _ _ (0, 0) hnew1
  have q0 : W1.cell? ⟨w.heap.size + 1, 0, none⟩ = some (.int .i64 k2) := cell_of_row _ _ 0 _ _ (0, 0) hnew2
  have m1 : W1.cell? ⟨w.heap.size, 1, none⟩ = some (.int .i64 n) := cell_of_row _ _ 1 _ _ (0, 0) hnew1
  have q1 : W1.cell? ⟨w.heap.size + 1, 1, none⟩ = some (.int .i64 n2) := cell_of_row _ _ 1 _ _ (0, 0) hnew2
  have m2 : W1.cell? ⟨w.heap.size, 2, none⟩ = some (.slice AB mb cb) := cell_of_row _ _ 2 _ _ (0, 0) hnew1
  have q2 : W1.cell? ⟨w.heap.size + 1, 2, none⟩ = some (.slice AB2 mb2 cb2) := cell_of_row _ _ 2 _ _ (0, 0) hnew2
  have m3 : W1.cell? ⟨w.heap.size, 3, none⟩ = some (.slice AL LL cL) := cell_of_row _ _ 3 _ _ (0, 0) hnew1
  have q3 : W1.cell? ⟨w.heap.size + 1, 3, none⟩ = some (.slice AL2 LL2 cL2) := cell_of_row _ _ 3 _ _ (0, 0) hnew2
  have m4 : W1.cell? ⟨w.heap.size, 4, none⟩ = some (.slice AD DD cD) := cell_of_row _ _ 4 _ _ (0, 0) hnew1
  have q4 : W1.cell? ⟨w.heap.size + 1, 4, none⟩ = some (.slice AD2 DD2 cD2) := cell_of_row _ _ 4 _ _ (0, 0) hnew2
  have HS1 := Lib.hid hs1
  have HL := Lib.hid hl
  have HD := Lib.hid hd
  have HL2 := Lib.hid hl2
  have HD2 := Lib.hid hd2
  have HB := Lib.hid hB
  have HB2 := Lib.hid hB2
  have HS := Lib.hid hS
  have HLL := Lib.hid hLL
  have HDD := Lib.hid hDD
  have HLL2 := Lib.hid hLL2
  have HDD2 := Lib.hid hDD2
  have HN := Lib.hid hN
  have HQ : Hid (Below W1.heap.size W1 W1) := Lib.hid (Below.refl _ _)
  clear hl hd hl2 hd2 hS hB hB2 hnew hnew1 hnew2 hb1 hb2 hs1 hLL hDD hLL2 hDD2 hN
  subst hkk
  rw [if_pos rfl]
  rw [if_neg h1, if_neg h2, if_neg h3]
  have k1 : ¬ k = 1 := by omega
  have k2 : ¬ k = 2 := by omega
  have k3 : ¬ k = 3 := by omega
  have k9 : ¬ k = 9 := by omega
  have k4 : ¬ k = 4 := by omega
  have k5 : ¬ k = 5 := by omega
  have c3 := h3
  have c4 := hc
  clear m1 q1 h1 h2 h3
  rw [if_neg c4]
  have k7 : ¬ k = 7 := fun e => c4 (.inl e)
  have k8 : ¬ k = 8 := fun e => c4 (.inr e)
  clear c4 m2 q2 m3 q3 m4 q4
  go_enter Tryd.func8, Tryd.ntmps8
  go_wp2_with fail
  go_ret
  exact ⟨rfl, (HCHAIN.out _ HQ.out).1⟩
set_option maxHeartbeats 4000000 in
theorem same_unl (N : Nat) (hIH : SameIH N) (k n : Int) (b : List Int) (l : Obs) (d : Ens) (hN : (Ob.mk k n b l d).sz ≤ N + 1) (k2 n2 : Int) (b2 : List Int) (l2 : Obs) (d2 : Ens) (hkk : ¬ k = k2) (S : Nat → Prop) (w : World) (c0 c1 c2 c3 c4 e0 e1 e2 e3 e4 : Value) (hx : ObR w S (.mk k n b l d) c0 c1 c2 c3 c4) (hy : ObR w S (.mk k2 n2 b2 l2 d2) e0 e1 e2 e3 e4) (hS : ∀ g, S g → g < w.heap.size) :
    Calls Tryd.prog 8 #[.agg #[c0, c1, c2, c3, c4], .agg #[e0, e1, e2, e3, e4]] w fun r w' => r = .returned (.bool (sameO (.mk k n b l d) (.mk k2 n2 b2 l2 d2))) ∧ Below w.heap.size w w' := by
  have IH := Lib.hid hIH
  clear hIH
  unfold ObR at hx hy
  obtain ⟨rfl, rfl, hk, hn, ⟨AB, mb, cb, rfl, hB⟩, ⟨AL, cL, rfl, hlc, hl⟩, ⟨AD, cD, rfl, hdc, hd⟩⟩ := hx
  obtain ⟨rfl, rfl, hk2, hn2, ⟨AB2, mb2, cb2, rfl, hB2⟩, ⟨AL2, cL2, rfl, hlc2, hl2⟩, ⟨AD2, cD2, rfl, hdc2, hd2⟩⟩ := hy
  rw [Ob.sz] at hN
  rw [sameO]
  obtain ⟨LL, hLL⟩ : ∃ LL, l.len = LL := ⟨_, rfl⟩
  obtain ⟨DD, hDD⟩ : ∃ DD, d.len = DD := ⟨_, rfl⟩
  obtain ⟨LL2, hLL2⟩ : ∃ LL, l2.len = LL := ⟨_, rfl⟩
  obtain ⟨DD2, hDD2⟩ : ∃ DD, d2.len = DD := ⟨_, rfl⟩
  rw [hLL] at hlc ⊢
  rw [hDD] at hdc ⊢
  rw [hLL2] at hlc2 ⊢
  rw [hDD2] at hdc2 ⊢
  have hb1 := (Below.refl w.heap.size w).alloc (Nat.le_refl _) (.cells #[.int .i64 k, .int .i64 n, .slice AB mb cb, .slice AL LL cL, .slice AD DD cD] 26)
  have hnew := heap_alloc_new w (.cells #[.int .i64 k, .int .i64 n, .slice AB mb cb, .slice AL LL cL, .slice AD DD cD] 26)
  obtain ⟨W0, hW0⟩ : ∃ W1, w.alloc (.cells #[.int .i64 k, .int .i64 n, .slice AB mb cb, .slice AL LL cL, .slice AD DD cD] 26) = W1 := ⟨_, rfl⟩
  have hs0 : W0.heap.size = w.heap.size + 1 := by rw [← hW0]; simp
  rw [hW0] at hb1 hnew
  have hb2 := (Below.refl W0.heap.size W0).alloc (Nat.le_refl _) (.cells #[.int .i64 k2, .int .i64 n2, .slice AB2 mb2 cb2, .slice AL2 LL2 cL2, .slice AD2 DD2 cD2] 26)
  have hnew2 := heap_alloc_new W0 (.cells #[.int .i64 k2, .int .i64 n2, .slice AB2 mb2 cb2, .slice AL2 LL2 cL2, .slice AD2 DD2 cD2] 26)
  obtain ⟨W1, hW1⟩ : ∃ W1, W0.alloc (.cells #[.int .i64 k2, .int .i64 n2, .slice AB2 mb2 cb2, .slice AL2 LL2 cL2, .slice AD2 DD2 cD2] 26) = W1 := ⟨_, rfl⟩
  have hs1 : W1.heap.size = w.heap.size + 2 := by rw [← hW1]; simp; omega
  rw [hW1] at hb2 hnew2
  rw [hs0] at hnew2
  have hnew1 := (hb2.block w.heap.size (by omega)).trans hnew
  have HCHAIN : Hid (∀ wr, Below W1.heap.size W1 wr → Below w.heap.size w wr ∧ wr.heap[w.heap.size]? = some (.cells #[.int .i64 k, .int .i64 n, .slice AB mb cb, .slice AL LL cL, .slice AD DD cD] 26 (0, 0)) ∧ wr.heap[w.heap.size + 1]? = some (.cells #[.int .i64 k2, .int .i64 n2, .slice AB2 mb2 cb2, .slice AL2 LL2 cL2, .slice AD2 DD2 cD2] 26 (0, 0))) := Lib.hid fun wr h => ⟨(hb1.trans (hb2.mono (by omega))).trans (h.mono (by omega)), (h.block w.heap.size (by omega)).trans hnew1, (h.block (w.heap.size + 1) (by omega)).trans hnew2⟩
  have m0 : W1.cell? ⟨w.heap.size, 0, none⟩ = some (.int .i64 k) := cell_of_row _ _ 0 _ _ (0, 0) hnew1
  have q0 : W1.cell? ⟨w.heap.size + 1, 0, none⟩ = some (.int .i64 k2) := cell_of_row _ _ 0 _ _ (0, 0) hnew2
  have m1 : W1.cell? ⟨w.heap.size, 1, none⟩ = some (.int .i64 n) := cell_of_row _ _ 1 _ _ (0, 0) hnew1
  have q1 : W1.cell? ⟨w.heap.size + 1, 1, none⟩ = some (.int .i64 n2) := cell_of_row _ _ 1 _ _ (0, 0) hnew2
  have m2 : W1.cell? ⟨w.heap.size, 2, none⟩ = some (.slice AB mb cb) := cell_of_row _ _ 2 _ _ (0, 0) hnew1
  have q2 : W1.cell? ⟨w.heap.size + 1, 2, none⟩ = some (.slice AB2 mb2 cb2) := cell_of_row _ _ 2 _ _ (0, 0) hnew2
  have m3 : W1.cell? ⟨w.heap.size, 3, none⟩ = some (.slice AL LL cL) := cell_of_row _ _ 3 _ _ (0, 0) hnew1
  have q3 : W1.cell? ⟨w.heap.size + 1, 3, none⟩ = some (.slice AL2 LL2 cL2) := cell_of_row _ _ 3 _ _ (0, 0) hnew2
  have m4 : W1.cell? ⟨w.heap.size, 4, none⟩ = some (.slice AD DD cD) := cell_of_row _ _ 4 _ _ (0, 0) hnew1
  have q4 : W1.cell? ⟨w.heap.size + 1, 4, none⟩ = some (.slice AD2 DD2 cD2) := cell_of_row _ _ 4 _ _ (0, 0) hnew2
  have HS1 := Lib.hid hs1
  have HL := Lib.hid hl
  have HD := Lib.hid hd
  have HL2 := Lib.hid hl2
  have HD2 := Lib.hid hd2
  have HB := Lib.hid hB
  have HB2 := Lib.hid hB2
  have HS := Lib.hid hS
  have HLL := Lib.hid hLL
  have HDD := Lib.hid hDD
  have HLL2 := Lib.hid hLL2
  have HDD2 := Lib.hid hDD2
  have HN := Lib.hid hN
  have HQ : Hid (Below W1.heap.size W1 W1) := Lib.hid (Below.refl _ _)
  clear hl hd hl2 hd2 hS hB hB2 hnew hnew1 hnew2 hb1 hb2 hs1 hLL hDD hLL2 hDD2 hN
  rw [if_neg hkk]
  clear m1 q1 m2 q2 m3 q3 m4 q4
  have i1 : decide (k = k2) = false := decide_eq_false hkk
  go_enter Tryd.func8, Tryd.ntmps8
  go_wp2_with fail
  go_ret
  exact ⟨rfl, (HCHAIN.out _ HQ.out).1⟩
theorem sameOC : ∀ (N : Nat), SameIH N
  | 0, .mk k n b l d, hN => by rw [Ob.sz] at hN; omega
  | N + 1, .mk k n b l d, hN => by
    rintro ⟨k2, n2, b2, l2, d2⟩ S w c0 c1 c2 c3 c4 e0 e1 e2 e3 e4 hx hy hS
    have IH := sameOC N
    by_cases hkk : k = k2
    · by_cases h1 : k = 1 ∨ k = 2 ∨ k = 3 ∨ k = 9
      · exact same_num N IH k n b l d hN k2 n2 b2 l2 d2 hkk h1 S w _ _ _ _ _ _ _ _ _ _ hx hy hS
      · by_cases h2 : k = 4 ∨ k = 5
        · exact same_byt N IH k n b l d hN k2 n2 b2 l2 d2 hkk h2 S w _ _ _ _ _ _ _ _ _ _ hx hy hS
        · by_cases h3 : k = 6
          · exact same_arr N IH k n b l d hN k2 n2 b2 l2 d2 hkk h3 S w _ _ _ _ _ _ _ _ _ _ hx hy hS
          · by_cases h7 : k = 7
            · exact same_dic N IH k n b l d hN k2 n2 b2 l2 d2 hkk h7 S w _ _ _ _ _ _ _ _ _ _ hx hy hS
            · by_cases h8 : k = 8
              · exact same_str N IH k n b l d hN k2 n2 b2 l2 d2 hkk h8 S w _ _ _ _ _ _ _ _ _ _ hx hy hS
              · exact same_oth N IH k n b l d hN k2 n2 b2 l2 d2 hkk h1 h2 h3 (by omega) S w _ _ _ _ _ _ _ _ _ _ hx hy hS
    · exact same_unl N IH k n b l d hN k2 n2 b2 l2 d2 hkk S w _ _ _ _ _ _ _ _ _ _ hx hy hS
end
end Go.Proofs.YtliieeagbpmcgaaDoor
