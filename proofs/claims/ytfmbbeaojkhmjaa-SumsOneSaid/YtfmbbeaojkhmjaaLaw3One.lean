/- SumsOne: rows of one length that are unlike in one byte alone have unlike sums; cut anywhere and summed in two it is the same. No condition on the input. -/
import Derived.Test.YtfmbbeaojkhmjaaLaw3Do
import Derived.Test.YtfmbbeaojkhmjaaCopy
import Derived.Test.YtfmbbeaojkhmjaaRegInv
import Derived.Deep.QuietTactic
import Derived.BigQuiet
namespace Go.Proofs.Ytfmbbeaojkhmjaa
open Go.ChangeShapes Go.WideShapes Go.ChangeAt Go.RowKit Go.Deep
set_option linter.unusedVariables false

/-- A row of values that the call laid: where, and what it holds. -/
structure RowAt (W : World) (bb : Nat) (cs : Array Value) : Prop where
  lt : bb < W.heap.size
  cell : ∀ i, W.cell? ⟨bb, i, none⟩ = cs[i]?
theorem RowAt.new (W : World) (cs : Array Value) (t : TypeId) : RowAt (W.alloc (.cells cs t)) W.heap.size cs := ⟨by simp, fun i => World.cell?_alloc_new _ _ _ i⟩
theorem RowAt.new1 (W : World) (o : Obj) (cs : Array Value) (t : TypeId) : RowAt ((W.alloc o).alloc (.cells cs t)) (W.heap.size + 1) cs := by
  have h := RowAt.new (W.alloc o) cs t
  rwa [World.size_alloc] at h
theorem RowAt.new2 (W : World) (o o' : Obj) (cs : Array Value) (t : TypeId) : RowAt (((W.alloc o).alloc o').alloc (.cells cs t)) (W.heap.size + 1 + 1) cs := by
  have h := RowAt.new1 (W.alloc o) o' cs t
  rwa [World.size_alloc] at h
theorem RowAt.kept {W W' : World} {bb : Nat} {cs : Array Value} (hb : Below W.heap.size W W') (h : RowAt W bb cs) : RowAt W' bb cs := ⟨Nat.lt_of_lt_of_le h.lt hb.size, fun i => (hb.cell (p := ⟨bb, i, none⟩) h.lt).trans (h.cell i)⟩
theorem RowAt.more {W : World} {bb : Nat} {cs : Array Value} (o : Obj) (h : RowAt W bb cs) : RowAt (W.alloc o) bb cs := h.kept ((Below.refl _ _).alloc (Nat.le_refl _) o)
theorem RowAt.drew {W : World} {bb : Nat} {cs : Array Value} (h : RowAt W bb cs) : RowAt W.drew bb cs := ⟨h.lt, h.cell⟩

/-- 'b[l:]'. -/
theorem run_cutE {P : Program} (W : World) (t e : TypeId) (ht : P.underlying t = some (.slice e)) (hz : ∀ w, (Go.sizeOf e).run P w = .ok 1 w) (A : Option Addr) (len cap l : Nat) (hl : l ≤ len) (hlc : len ≤ cap) :
    (Instr.slice t (.slice A len cap) (some (.int .i64 (l : Int))) none none).run P W = .ok (.slice (cutA A cap l) (len - l) (cap - l)) W := by
  have ht' : P.underlying t = some (.slice (P.elem t)) := by simp [Program.elem, ht]
  have he : P.elem t = e := by simp [Program.elem, ht]
  rw [run_slice_l W t _ _ _ ht' .i64 _ (by omega) (by omega), he, hz]
  simp [Result.andThen, sliced, cutA]
theorem Mine.store {w : World} {base p : Nat} {v : Value} {zs : List Int} (h : Mine w base v p zs) (k : Nat) (hk : k < p) (c : Int) (hc : 0 ≤ c ∧ c < 256) :
    ∃ g cap, v = .slice (some ⟨g, 0, none⟩) p cap ∧ base ≤ g ∧ w.frozen? ⟨g, k, none⟩ = false ∧ w.cell? ⟨g, k, none⟩ = some (.int .u8 (zs.getD k 0)) ∧ Mine (w.setCell ⟨g, k, none⟩ (.int .u8 c)) base v p (zs.set k c) := by
  have hl := h.len
  rcases h.own.2 with ⟨_, h0⟩ | ⟨g, cap, cur, hv, hb, hh, hnc, hcm, hcs, htk⟩
  · omega
  · rw [Nat.mul_one] at hcs htk
    have hcur : cur[k]? = some (.int .u8 (zs.getD k 0)) := by
      have h1 : (cur.toList.take p)[k]? = (zs.map (Value.int .u8))[k]? := by rw [htk]
      have h2 : (zs.map (Value.int .u8))[k]? = some (.int .u8 (zs.getD k 0)) := by simp [List.getD, hl, hk]
      rw [h2, List.getElem?_take, if_pos hk] at h1
      simpa using h1
    refine ⟨g, cap, hv, hb, by simp [World.frozen?, hh], by simp [World.cell?, hh, hcur], ⟨by simp [hl], .inr ⟨g, cap, cur.set! k (.int .u8 c), hv, hb, ?_, hnc, hcm, by simpa using hcs, ?_⟩⟩, fun z hz => ?_⟩
    · simp [World.setCell, Array.getElem?_modify, hh]
    · rw [Nat.mul_one, Array.set!_eq_setIfInBounds, Array.toList_setIfInBounds, List.take_set, htk, List.map_set]
    · rcases List.mem_or_eq_of_mem_set hz with h1 | h1
      · exact h.rng z h1
      · rw [h1]; exact hc
theorem stepA_sum : ∀ (zs : List Int) (x y : Int), 0 ≤ x → x < 65521 → (stepA x y zs).1 = (x + zs.sum) % 65521
  | [], x, y, h0, h1 => by simp [stepA]; omega
  | z :: r, x, y, h0, h1 => by rw [stepA, stepA_sum r _ _ (by omega) (by omega), List.sum_cons]; omega
theorem sum_set : ∀ (zs : List Int) (k : Nat) (c : Int), k < zs.length → (zs.set k c).sum = zs.sum - zs.getD k 0 + c
  | [], k, c, h => by simp at h
  | z :: r, 0, c, h => by simp; omega
  | z :: r, k + 1, c, h => by
    have ih := sum_set r k c (by simpa using h)
    simp only [List.set_cons_succ, List.sum_cons, List.getD_cons_succ]
    omega
theorem one_unlike (zs : List Int) (k : Nat) (c : Int) (hk : k < zs.length) (hz : 0 ≤ zs.getD k 0 ∧ zs.getD k 0 < 256) (hc : 0 ≤ c ∧ c < 256) (he : moreV 1 zs = moreV 1 (zs.set k c)) : zs.getD k 0 = c := by
  have e1 := stepA_sum zs 1 0 (by omega) (by omega)
  have e2 := stepA_sum (zs.set k c) 1 0 (by omega) (by omega)
  have b1 := stepA_bd zs 1 0 (by omega) (by omega) (by omega) (by omega)
  have b2 := stepA_bd (zs.set k c) 1 0 (by omega) (by omega) (by omega) (by omega)
  rw [sum_set zs k c hk] at e2
  unfold moreV at he
  simp only [show (1 : Int) % 65536 % 65521 = 1 by decide, show (1 : Int) / 65536 % 65521 = 0 by decide] at he
  omega

/-- What each operation of the last statement leaves in its slot. -/
def sayV (x : Value) : Value → World → Prop := fun v _ => v = x
def rowV (cs : Array Value) : Value → World → Prop := fun v w => ∃ bb, v = .slice (some ⟨bb, 0, none⟩) cs.size cs.size ∧ RowAt w bb cs
def Mono (p : Value → World → Prop) : Prop := ∀ v w w', Below w.heap.size w w' → p v w → p v w'
theorem sayV_mono (x : Value) : Mono (sayV x) := fun _ _ _ _ h => h
theorem rowV_mono (cs : Array Value) : Mono (rowV cs) := fun _ _ _ hb ⟨bb, e, h⟩ => ⟨bb, e, h.kept hb⟩
def oneP (vB vD v0 v1 : Value) (b o k : Nat) (y z S D T : Int) (t : Bool) : List (Value → World → Prop) :=
  [sayV vB, rowV #[vB], sayV (.int .u32 S), sayV vD, rowV #[vD], sayV (.int .u32 D), sayV (.bool t), sayV vB, sayV (.int .i64 k), sayV (.pointer (some ⟨b, o + k, none⟩)), sayV (.int .u8 y), sayV (.int .u8 z), sayV (.bool t), sayV (.bool true), sayV (.bool true),
   sayV vB, sayV (.int .i64 k), sayV v0, sayV vB, sayV (.int .i64 k), sayV v1, rowV #[v0, v1], sayV (.int .u32 S), sayV vB, rowV #[vB], sayV (.int .u32 S), sayV (.bool true), sayV (.bool true), sayV (.bool true),
   sayV vB, sayV (.int .i64 k), sayV v0, rowV #[v0], sayV (.int .u32 T), sayV vB, sayV (.int .i64 k), sayV v1, sayV (.int .u32 S), sayV vB, rowV #[vB], sayV (.int .u32 S), sayV (.bool true), sayV (.bool true), sayV (.bool true)]
theorem oneP_mono (vB vD v0 v1 : Value) (b o k : Nat) (y z S D T : Int) (t : Bool) : ∀ p ∈ oneP vB vD v0 v1 b o k y z S D T t, Mono p := fun p hp => by
  simp only [oneP, List.mem_cons, List.mem_nil_iff, or_false] at hp
  rcases hp with rfl | rfl | rfl | rfl | rfl | rfl | rfl | rfl | rfl | rfl | rfl | rfl | rfl | rfl | rfl | rfl | rfl | rfl | rfl | rfl | rfl | rfl | rfl | rfl | rfl | rfl | rfl | rfl | rfl | rfl | rfl | rfl | rfl | rfl | rfl | rfl | rfl | rfl | rfl | rfl | rfl | rfl | rfl | rfl <;> first | exact sayV_mono _ | exact rowV_mono _
def dst3 (j : Nat) : Nat := if j = 43 then 6 else 30 + j
/-- How far the last statement has come. -/
structure OneI (vB vD : Value) (z : Int) (k : Nat) (W3 : World) (L : List (Value → World → Prop)) (listed : Array Bool) (a : Act) (w : World) : Prop where
  ls : listed.size = 44
  sz : a.tmps.size = 73
  df : a.defers = []
  b0 : a.tmps.getD 0 undef = vB
  b2 : a.tmps.getD 2 undef = .int .u8 z
  b7 : a.tmps.getD 7 undef = .int .i64 k
  b8 : a.tmps.getD 8 undef = vD
  s : Below W3.heap.size W3 w
  p : ∀ j q, L[j]? = some q → listed.getD j false = true → q (a.tmps.getD (dst3 j) undef) w
theorem getD_put (a : Act) (t d : Nat) (v : Value) (hd : d < a.tmps.size) : (a.put (some d) v).tmps.getD t undef = if d = t then v else a.tmps.getD t undef := by
  simp only [Act.put, Array.getD_eq_getD_getElem?, Array.getElem?_setIfInBounds]
  split
  · next h => subst h; first | rfl | (rw [if_pos hd]; rfl)
  · rfl
theorem getD_some {A : Array Value} {t m : Nat} {v : Value} (hs : A.size = m) (ht : t < m) (h : A.getD t undef = v) : A[t]? = some v := by
  rw [Array.getD_eq_getD_getElem?, Array.getElem?_eq_getElem (by omega)] at h
  rw [Array.getElem?_eq_getElem (by omega), ← h]
  rfl
theorem OneI.put {vB vD : Value} {z : Int} {k : Nat} {W3 : World} {L : List (Value → World → Prop)} {listed : Array Bool} {a : Act} {w w' : World} (hL : ∀ p ∈ L, Mono p) (h : OneI vB vD z k W3 L listed a w) {i d : Nat} {v : Value} {q : Value → World → Prop}
    (hi : L[i]? = some q) (h44 : i < 44) (hd : d = dst3 i) (hb : Below w.heap.size w w') (hv : q v w') : OneI vB vD z k W3 L (listed.setIfInBounds i true) (a.put (some d) v) w' := by
  have hds : d < a.tmps.size := by rw [hd, h.sz, dst3]; split <;> omega
  have hne : d ≠ 0 ∧ d ≠ 2 ∧ d ≠ 7 ∧ d ≠ 8 := by rw [hd, dst3]; split <;> omega
  refine ⟨by simp [h.ls], by simp [Act.put, h.sz], h.df, ?_, ?_, ?_, ?_, h.s.trans (hb.mono h.s.size), fun j r hj hl => ?_⟩
  · rw [getD_put a 0 d v hds, if_neg hne.1]; exact h.b0
  · rw [getD_put a 2 d v hds, if_neg hne.2.1]; exact h.b2
  · rw [getD_put a 7 d v hds, if_neg hne.2.2.1]; exact h.b7
  · rw [getD_put a 8 d v hds, if_neg hne.2.2.2]; exact h.b8
  · rw [getD_put a _ d v hds]
    by_cases hij : i = j
    · subst hij
      rw [if_pos hd]
      rw [hi] at hj
      cases hj
      exact hv
    · have hj44 : dst3 i ≠ dst3 j := by
        unfold dst3
        split <;> split <;> omega
      rw [if_neg (by rw [hd]; exact hj44)]
      have hl2 : listed.getD j false = true := by
        rw [Array.getD_eq_getD_getElem?, Array.getElem?_setIfInBounds, if_neg hij, ← Array.getD_eq_getD_getElem?] at hl
        exact hl
      exact hL r (List.mem_of_getElem? hj) _ _ _ hb (h.p j r hj hl2)

set_option maxRecDepth 100000 in
set_option maxHeartbeats 4000000 in
theorem one_main (A : Option Addr) (n c : Nat) (zs : List Int) (at_ z : Int) (w0 : World) (hb : Byt w0 w0.heap.size A n c zs) (h0 : 0 < n) (hn : n ≤ 2000) (a0 : 0 ≤ at_) (a1 : at_ ≤ 65535) (z0 : 0 ≤ z) (z1 : z ≤ 255) :
    Calls Try.prog 5 #[.slice A n c, .int .u16 at_, .int .u8 z] w0 fun e w' => e = .returned (.bool true) ∧ Below w0.heap.size w0 w' := by
  have HAW := Lib.hid (awake_any w0)
  have HB := Lib.hid hb
  have HCP := Lib.hid (fun W (hW : Below w0.heap.size w0 W) => refCopy A n c zs W ((hb.below hW (Nat.le_refl _)).more hW.size) (by omega))
  obtain ⟨k, hk⟩ : ∃ k : Nat, at_ % (n : Int) = k := ⟨(at_ % (n : Int)).toNat, by have := Int.emod_nonneg at_ (show (n : Int) ≠ 0 by omega); omega⟩
  have hkn : k < n := by have := Int.emod_lt_of_pos at_ (show 0 < (n : Int) by omega); omega
  have hn0 : ((n : Int) == 0) = false := beq_eq_false_iff_ne.2 (by omega)
  have HST := Lib.hid (fun B W v (hm : Mine W B v n zs) => hm.store k hkn z ⟨z0, by omega⟩)
  clear hb
  go_enter Try.func5, Try.ntmps5
  go_wp2_with (first
    | (go_at_call 6; refine HAW.out.mono ?_; rintro e w1 ⟨rfl, hb1⟩; have HB1 := Lib.hid hb1; clear hb1)
    | (go_at_call 11; refine (HCP.out w1 HB1.out).mono ?_; rintro e w2 ⟨v, rfl, hm2, hb2⟩; obtain ⟨g, cap, rfl, hg, hfz, hcl, hm3⟩ := HST.out w1.heap.size w2 v hm2; have HM3 := Lib.hid hm3; have HB2 := Lib.hid hb2; have HG := Lib.hid hg; clear hm3 hb2 hg))
  obtain ⟨W3, hW3⟩ : ∃ W3, w2.setCell ⟨g, k, none⟩ (.int .u8 z) = W3 := ⟨_, rfl⟩
  rw [hW3] at HM3 ⊢
  obtain ⟨b, o, rfl, hbl, hc⟩ := HB.out.cell h0
  obtain ⟨S, hS⟩ : ∃ S, moreV 1 zs = S := ⟨_, rfl⟩
  obtain ⟨D, hD⟩ : ∃ D, moreV 1 (zs.set k z) = D := ⟨_, rfl⟩
  obtain ⟨T, hT⟩ : ∃ T, moreV 1 (zs.take k) = T := ⟨_, rfl⟩
  obtain ⟨y, hy⟩ : ∃ y, zs.getD k 0 = y := ⟨_, rfl⟩
  have hcn0 : n ≤ c := HB.out.cap
  have hsl1 : ∀ W, (Instr.slice 25 (.slice (some ⟨b, o, none⟩) n c) none (some (.int .i64 (k : Int))) none).run Try.prog W = .ok (.slice (some ⟨b, o, none⟩) k c) W := fun W => by
    have h := run_cut0 (P := Try.prog) W 25 5 Try.underlying25 (fun w => by kernel_rfl) (some ⟨b, o, none⟩) n c k (by omega)
    rw [cutA_some b o c 0 (by omega), Nat.add_zero] at h
    exact h
  have hsl2 : ∀ W, (Instr.slice 25 (.slice (some ⟨b, o, none⟩) n c) (some (.int .i64 (k : Int))) none none).run Try.prog W = .ok (.slice (some ⟨b, o + k, none⟩) (n - k) (c - k)) W := fun W => by
    have h := run_cutE (P := Try.prog) W 25 5 Try.underlying25 (fun w => by kernel_rfl) (some ⟨b, o, none⟩) n c k (by omega) (by omega)
    rw [cutA_some b o c k (by omega)] at h
    exact h
  have h3 : Below w0.heap.size w0 W3 := by
    rw [← hW3]
    exact (HB1.out.trans (HB2.out.mono HB1.out.size)).setCell (p := ⟨g, k, none⟩) (Nat.le_trans HB1.out.size HG.out) _
  have hBW : ∀ W, Below W3.heap.size W3 W → Byt W W.heap.size (some ⟨b, o, none⟩) n c zs := fun W hW => (HB.out.below (h3.trans (hW.mono h3.size)) (Nat.le_refl _)).more (Nat.le_trans h3.size hW.size)
  have hDW : ∀ W, Below W3.heap.size W3 W → Byt W W.heap.size (some ⟨g, 0, none⟩) n cap (zs.set k z) := fun W hW => by
    obtain ⟨A', c', e, hby⟩ := (HM3.out.kept hW).byt
    injection e with e1 e2 e3
    rw [e1, e3]
    exact hby
  have HW0 := Lib.hid h3
  have hcn : n ≤ c := HB.out.cap
  have hB0 : ∀ W, Below W3.heap.size W3 W → Byt W W.heap.size (some ⟨b, o, none⟩) k c (zs.take k) := fun W hW => by
    have h := (hBW W hW).first (m := k) (by omega)
    rw [cutA_some b o c 0 (by omega), Nat.add_zero] at h
    exact h
  have hB1 : ∀ W, Below W3.heap.size W3 W → Byt W W.heap.size (some ⟨b, o + k, none⟩) (n - k) (c - k) (zs.drop k) := fun W hW => by
    have h := (hBW W hW).cut (l := k) (m := n - k) (by omega)
    rw [cutA_some b o c k (by omega), List.take_of_length_le (by rw [List.length_drop, HB.out.len]; exact Nat.le_refl _)] at h
    exact h
  have hS2 : moreV 1 (zs.take k ++ zs.drop k) = S := by rw [List.take_append_drop]; exact hS
  have hTb : 0 ≤ T ∧ T ≤ 4294967295 := by rw [← hT]; exact moreV_bd _ _
  have hS3 : moreV T (zs.drop k) = S := by rw [← hT, moreV_app]; exact hS2
  have HA : Hid (∀ W bb, Below W3.heap.size W3 W → RowAt W bb #[.slice (some ⟨b, o, none⟩) n c] → Calls Try.prog 7 #[.slice (some ⟨bb, 0, none⟩) 1 1] W fun e w' => e = .returned (.int .u32 S) ∧ Below W.heap.size W w') := Lib.hid (by
    rw [← hS]; exact fun W bb hW hr => adler1 hr.lt (hr.cell 0) (hBW W hW) (by omega) 1)
  have HAD : Hid (∀ W bb, Below W3.heap.size W3 W → RowAt W bb #[.slice (some ⟨g, 0, none⟩) n cap] → Calls Try.prog 7 #[.slice (some ⟨bb, 0, none⟩) 1 1] W fun e w' => e = .returned (.int .u32 D) ∧ Below W.heap.size W w') := Lib.hid (by
    rw [← hD]; exact fun W bb hW hr => adler1 hr.lt (hr.cell 0) (hDW W hW) (by omega) 1)
  have HAT : Hid (∀ W bb, Below W3.heap.size W3 W → RowAt W bb #[.slice (some ⟨b, o, none⟩) k c] → Calls Try.prog 7 #[.slice (some ⟨bb, 0, none⟩) 1 1] W fun e w' => e = .returned (.int .u32 T) ∧ Below W.heap.size W w') := Lib.hid (by
    rw [← hT]; exact fun W bb hW hr => adler1 hr.lt (hr.cell 0) (hB0 W hW) (by omega) 1)
  have HA2 : Hid (∀ W bb, Below W3.heap.size W3 W → RowAt W bb #[.slice (some ⟨b, o, none⟩) k c, .slice (some ⟨b, o + k, none⟩) (n - k) (c - k)] → Calls Try.prog 7 #[.slice (some ⟨bb, 0, none⟩) 2 2] W fun e w' => e = .returned (.int .u32 S) ∧ Below W.heap.size W w') := Lib.hid (by
    rw [← hS2]; exact fun W bb hW hr => adler2 hr.lt (hr.cell 0) (hr.cell 1) (hB0 W hW) (hB1 W hW) (by omega) (by omega) 2)
  have HMO : Hid (∀ W, Below W3.heap.size W3 W → Calls Try.prog 8 #[.int .u32 T, .slice (some ⟨b, o + k, none⟩) (n - k) (c - k)] W fun e w' => e = .returned (.int .u32 S) ∧ Below W.heap.size W w') := Lib.hid (by
    rw [← hS3]; exact fun W hW => smMore T _ _ _ _ W hTb.1 hTb.2 (hB1 W hW) (by omega))
  have HCK : Hid (∀ W, Below W3.heap.size W3 W → W.cell? ⟨b, o + k, none⟩ = some (.int .u8 y)) := Lib.hid (fun W hW => by
    have h := (h3.trans (hW.mono h3.size)).cell (p := ⟨b, o + k, none⟩) hbl
    rw [h, hc k hkn, hy])
  obtain ⟨t, ht⟩ : ∃ t, (y == z) = t := ⟨_, rfl⟩
  have hSD : (S == D) = t := by
    have hkl : k < zs.length := by rw [HB.out.len]; exact hkn
    by_cases hyz : y = z
    · have e : zs.set k z = zs := by
        rw [← hyz, ← hy]
        have e2 : zs.getD k 0 = zs[k] := by simp [List.getD, hkl]
        rw [e2]
        exact List.set_getElem_self hkl
      rw [← ht, beq_iff_eq.2 hyz, ← hS, ← hD, e]
      exact beq_iff_eq.2 rfl
    · rw [← ht, beq_eq_false_iff_ne.2 hyz]
      refine beq_eq_false_iff_ne.2 fun h => hyz ?_
      rw [← hy]
      exact one_unlike zs k z hkl (HB.out.getD k) ⟨z0, by omega⟩ (by rw [hS, hD]; exact h)
  have hL := oneP_mono (.slice (some ⟨b, o, none⟩) n c) (.slice (some ⟨g, 0, none⟩) n cap) (.slice (some ⟨b, o, none⟩) k c) (.slice (some ⟨b, o + k, none⟩) (n - k) (c - k)) b o k y z S D T t
  have HW3 := Lib.hid hW3
  clear hW3 hc hS hD hT hy
  refine wp_region_inv (by kernel_rfl) (OneI (.slice (some ⟨b, o, none⟩) n c) (.slice (some ⟨g, 0, none⟩) n cap) z k W3 (oneP (.slice (some ⟨b, o, none⟩) n c) (.slice (some ⟨g, 0, none⟩) n cap) (.slice (some ⟨b, o, none⟩) k c) (.slice (some ⟨b, o + k, none⟩) (n - k) (c - k)) b o k y z S D T t)) ?_ ?_ ?_
  · exact ⟨rfl, rfl, rfl, rfl, rfl, rfl, rfl, (Below.refl _ _).drew, fun j q hj hl => by simp [Array.getD_eq_getD_getElem?, Array.getElem?_replicate] at hl; split at hl <;> simp at hl⟩
  · intro listed a w i hI hi
    obtain ⟨hun, op, ho, hdep⟩ := mem_ready.1 hi
    have hlt : i < 44 := (Array.getElem?_eq_some_iff.1 ho).1
    clear hi hun
    obtain rfl | rfl | rfl | rfl | rfl | rfl | rfl | rfl | rfl | rfl | rfl | rfl | rfl | rfl | rfl | rfl | rfl | rfl | rfl | rfl | rfl | rfl | rfl | rfl | rfl | rfl | rfl | rfl | rfl | rfl | rfl | rfl | rfl | rfl | rfl | rfl | rfl | rfl | rfl | rfl | rfl | rfl | rfl | rfl : i = 0 ∨ i = 1 ∨ i = 2 ∨ i = 3 ∨ i = 4 ∨ i = 5 ∨ i = 6 ∨ i = 7 ∨ i = 8 ∨ i = 9 ∨ i = 10 ∨ i = 11 ∨ i = 12 ∨ i = 13 ∨ i = 14 ∨ i = 15 ∨ i = 16 ∨ i = 17 ∨ i = 18 ∨ i = 19 ∨ i = 20 ∨ i = 21 ∨ i = 22 ∨ i = 23 ∨ i = 24 ∨ i = 25 ∨ i = 26 ∨ i = 27 ∨ i = 28 ∨ i = 29 ∨ i = 30 ∨ i = 31 ∨ i = 32 ∨ i = 33 ∨ i = 34 ∨ i = 35 ∨ i = 36 ∨ i = 37 ∨ i = 38 ∨ i = 39 ∨ i = 40 ∨ i = 41 ∨ i = 42 ∨ i = 43 := by omega
    · cases ho
      have d99 := hI.b0
      refine wpOp_value (v := .slice (some ⟨b, o, none⟩) n c) (w' := w) rfl rfl (by have e : a.eval (.tmp 0) = .slice (some ⟨b, o, none⟩) n c := d99; go_simp) (hI.put hL rfl (by omega) rfl (Below.refl _ _) rfl)
    · cases ho
      have d0 : a.tmps.getD 30 undef = .slice (some ⟨b, o, none⟩) n c := hI.p 0 _ rfl (hdep ⟨0, .data⟩ (by simp) rfl)
      refine wpOp_value (v := .slice (some ⟨w.heap.size, 0, none⟩) 1 1) (w' := w.alloc (.cells #[.slice (some ⟨b, o, none⟩) n c] 25)) rfl rfl (by have e0 : a.tmps[30]?.getD undef = .slice (some ⟨b, o, none⟩) n c := (by rw [← Array.getD_eq_getD_getElem?]; exact d0); go_simp) (hI.put hL rfl (by omega) rfl ((Below.refl _ _).alloc (Nat.le_refl _) _) ⟨w.heap.size, rfl, RowAt.new _ _ _⟩)
    · cases ho
      obtain ⟨bb1, d1, r1⟩ : rowV #[.slice (some ⟨b, o, none⟩) n c] (a.tmps.getD 31 undef) w := hI.p 1 _ rfl (hdep ⟨1, .data⟩ (by simp) rfl)
      refine wpOp_enter (f := 7) (args := #[.slice (some ⟨bb1, 0, none⟩) 1 1]) rfl rfl (by have e : a.eval (.tmp 31) = .slice (some ⟨bb1, 0, none⟩) 1 1 := d1; go_simp) (HA.out w bb1 hI.s r1) ?_
      rintro e w' ⟨rfl, hb⟩
      exact ⟨_, rfl, hI.put hL rfl (by omega) rfl hb rfl⟩
    · cases ho
      have d99 := hI.b8
      refine wpOp_value (v := .slice (some ⟨g, 0, none⟩) n cap) (w' := w) rfl rfl (by have e : a.eval (.tmp 8) = .slice (some ⟨g, 0, none⟩) n cap := d99; go_simp) (hI.put hL rfl (by omega) rfl (Below.refl _ _) rfl)
    · cases ho
      have d3 : a.tmps.getD 33 undef = .slice (some ⟨g, 0, none⟩) n cap := hI.p 3 _ rfl (hdep ⟨3, .data⟩ (by simp) rfl)
      refine wpOp_value (v := .slice (some ⟨w.heap.size, 0, none⟩) 1 1) (w' := w.alloc (.cells #[.slice (some ⟨g, 0, none⟩) n cap] 25)) rfl rfl (by have e3 : a.tmps[33]?.getD undef = .slice (some ⟨g, 0, none⟩) n cap := (by rw [← Array.getD_eq_getD_getElem?]; exact d3); go_simp) (hI.put hL rfl (by omega) rfl ((Below.refl _ _).alloc (Nat.le_refl _) _) ⟨w.heap.size, rfl, RowAt.new _ _ _⟩)
    · cases ho
      obtain ⟨bb4, d4, r4⟩ : rowV #[.slice (some ⟨g, 0, none⟩) n cap] (a.tmps.getD 34 undef) w := hI.p 4 _ rfl (hdep ⟨4, .data⟩ (by simp) rfl)
      refine wpOp_enter (f := 7) (args := #[.slice (some ⟨bb4, 0, none⟩) 1 1]) rfl rfl (by have e : a.eval (.tmp 34) = .slice (some ⟨bb4, 0, none⟩) 1 1 := d4; go_simp) (HAD.out w bb4 hI.s r4) ?_
      rintro e w' ⟨rfl, hb⟩
      exact ⟨_, rfl, hI.put hL rfl (by omega) rfl hb rfl⟩
    · cases ho
      have d2 : a.tmps.getD 32 undef = .int .u32 S := hI.p 2 _ rfl (hdep ⟨2, .data⟩ (by simp) rfl)
      have d5 : a.tmps.getD 35 undef = .int .u32 D := hI.p 5 _ rfl (hdep ⟨5, .data⟩ (by simp) rfl)
      refine wpOp_value (v := .bool t) (w' := w) rfl rfl (by have e2 : a.eval (.tmp 32) = .int .u32 S := d2; have e5 : a.eval (.tmp 35) = .int .u32 D := d5;  go_simp) (hI.put hL rfl (by omega) rfl (Below.refl _ _) rfl)
    · cases ho
      have d99 := hI.b0
      refine wpOp_value (v := .slice (some ⟨b, o, none⟩) n c) (w' := w) rfl rfl (by have e : a.eval (.tmp 0) = .slice (some ⟨b, o, none⟩) n c := d99; go_simp) (hI.put hL rfl (by omega) rfl (Below.refl _ _) rfl)
    · cases ho
      have d99 := hI.b7
      refine wpOp_value (v := .int .i64 k) (w' := w) rfl rfl (by have e : a.eval (.tmp 7) = .int .i64 k := d99; go_simp) (hI.put hL rfl (by omega) rfl (Below.refl _ _) rfl)
    · cases ho
      have d7 : a.tmps.getD 37 undef = .slice (some ⟨b, o, none⟩) n c := hI.p 7 _ rfl (hdep ⟨7, .data⟩ (by simp) rfl)
      have d8 : a.tmps.getD 38 undef = .int .i64 k := hI.p 8 _ rfl (hdep ⟨8, .data⟩ (by simp) rfl)
      refine wpOp_value (v := .pointer (some ⟨b, o + k, none⟩)) (w' := w) rfl rfl (by have e7 : a.eval (.tmp 37) = .slice (some ⟨b, o, none⟩) n c := d7; have e8 : a.eval (.tmp 38) = .int .i64 k := d8; have hkn2 : (k : Int) < n := (by omega); go_simp) (hI.put hL rfl (by omega) rfl (Below.refl _ _) rfl)
    · cases ho
      have d9 : a.tmps.getD 39 undef = .pointer (some ⟨b, o + k, none⟩) := hI.p 9 _ rfl (hdep ⟨9, .data⟩ (by simp) rfl)
      refine wpOp_value (v := .int .u8 y) (w' := w) rfl rfl (by have e9 : a.eval (.tmp 39) = .pointer (some ⟨b, o + k, none⟩) := d9; have ck := HCK.out w hI.s; go_simp) (hI.put hL rfl (by omega) rfl (Below.refl _ _) rfl)
    · cases ho
      have d99 := hI.b2
      refine wpOp_value (v := .int .u8 z) (w' := w) rfl rfl (by have e : a.eval (.tmp 2) = .int .u8 z := d99; go_simp) (hI.put hL rfl (by omega) rfl (Below.refl _ _) rfl)
    · cases ho
      have d10 : a.tmps.getD 40 undef = .int .u8 y := hI.p 10 _ rfl (hdep ⟨10, .data⟩ (by simp) rfl)
      have d11 : a.tmps.getD 41 undef = .int .u8 z := hI.p 11 _ rfl (hdep ⟨11, .data⟩ (by simp) rfl)
      refine wpOp_value (v := .bool t) (w' := w) rfl rfl (by have e10 : a.eval (.tmp 40) = .int .u8 y := d10; have e11 : a.eval (.tmp 41) = .int .u8 z := d11;  go_simp) (hI.put hL rfl (by omega) rfl (Below.refl _ _) rfl)
    · cases ho
      have d6 : a.tmps.getD 36 undef = .bool t := hI.p 6 _ rfl (hdep ⟨6, .data⟩ (by simp) rfl)
      have d12 : a.tmps.getD 42 undef = .bool t := hI.p 12 _ rfl (hdep ⟨12, .data⟩ (by simp) rfl)
      refine wpOp_value (v := .bool true) (w' := w) rfl rfl (by have e6 : a.eval (.tmp 36) = .bool t := d6; have e12 : a.eval (.tmp 42) = .bool t := d12;  go_simp) (hI.put hL rfl (by omega) rfl (Below.refl _ _) rfl)
    · cases ho
      have d13 : a.tmps.getD 43 undef = .bool true := hI.p 13 _ rfl (hdep ⟨13, .data⟩ (by simp) rfl)
      refine wpOp_value (v := .bool true) (w' := w) rfl rfl (by have e13 : a.eval (.tmp 43) = .bool true := d13;  go_simp) (hI.put hL rfl (by omega) rfl (Below.refl _ _) rfl)
    · cases ho
      have d99 := hI.b0
      have d14 : a.tmps.getD 44 undef = .bool true := hI.p 14 _ rfl (hdep ⟨14, .guard⟩ (by simp) rfl)
      have g1 : a.tmps[44]? = some (.bool true) := getD_some hI.sz (by omega) d14
      refine wpOp_value (v := .slice (some ⟨b, o, none⟩) n c) (w' := w) rfl (by simp [Region.wanted, yielded, g1]) (by have e : a.eval (.tmp 0) = .slice (some ⟨b, o, none⟩) n c := d99; go_simp) (hI.put hL rfl (by omega) rfl (Below.refl _ _) rfl)
    · cases ho
      have d99 := hI.b7
      have d14 : a.tmps.getD 44 undef = .bool true := hI.p 14 _ rfl (hdep ⟨14, .guard⟩ (by simp) rfl)
      have g1 : a.tmps[44]? = some (.bool true) := getD_some hI.sz (by omega) d14
      refine wpOp_value (v := .int .i64 k) (w' := w) rfl (by simp [Region.wanted, yielded, g1]) (by have e : a.eval (.tmp 7) = .int .i64 k := d99; go_simp) (hI.put hL rfl (by omega) rfl (Below.refl _ _) rfl)
    · cases ho
      have d15 : a.tmps.getD 45 undef = .slice (some ⟨b, o, none⟩) n c := hI.p 15 _ rfl (hdep ⟨15, .data⟩ (by simp) rfl)
      have d16 : a.tmps.getD 46 undef = .int .i64 k := hI.p 16 _ rfl (hdep ⟨16, .data⟩ (by simp) rfl)
      have d14 : a.tmps.getD 44 undef = .bool true := hI.p 14 _ rfl (hdep ⟨14, .guard⟩ (by simp) rfl)
      have g1 : a.tmps[44]? = some (.bool true) := getD_some hI.sz (by omega) d14
      refine wpOp_value (v := .slice (some ⟨b, o, none⟩) k c) (w' := w) rfl (by simp [Region.wanted, yielded, g1]) (by have e15 : a.eval (.tmp 45) = .slice (some ⟨b, o, none⟩) n c := d15; have e16 : a.eval (.tmp 46) = .int .i64 k := d16;  go_simp) (hI.put hL rfl (by omega) rfl (Below.refl _ _) rfl)
    · cases ho
      have d99 := hI.b0
      have d14 : a.tmps.getD 44 undef = .bool true := hI.p 14 _ rfl (hdep ⟨14, .guard⟩ (by simp) rfl)
      have g1 : a.tmps[44]? = some (.bool true) := getD_some hI.sz (by omega) d14
      refine wpOp_value (v := .slice (some ⟨b, o, none⟩) n c) (w' := w) rfl (by simp [Region.wanted, yielded, g1]) (by have e : a.eval (.tmp 0) = .slice (some ⟨b, o, none⟩) n c := d99; go_simp) (hI.put hL rfl (by omega) rfl (Below.refl _ _) rfl)
    · cases ho
      have d99 := hI.b7
      have d14 : a.tmps.getD 44 undef = .bool true := hI.p 14 _ rfl (hdep ⟨14, .guard⟩ (by simp) rfl)
      have g1 : a.tmps[44]? = some (.bool true) := getD_some hI.sz (by omega) d14
      refine wpOp_value (v := .int .i64 k) (w' := w) rfl (by simp [Region.wanted, yielded, g1]) (by have e : a.eval (.tmp 7) = .int .i64 k := d99; go_simp) (hI.put hL rfl (by omega) rfl (Below.refl _ _) rfl)
    · cases ho
      have d18 : a.tmps.getD 48 undef = .slice (some ⟨b, o, none⟩) n c := hI.p 18 _ rfl (hdep ⟨18, .data⟩ (by simp) rfl)
      have d19 : a.tmps.getD 49 undef = .int .i64 k := hI.p 19 _ rfl (hdep ⟨19, .data⟩ (by simp) rfl)
      have d14 : a.tmps.getD 44 undef = .bool true := hI.p 14 _ rfl (hdep ⟨14, .guard⟩ (by simp) rfl)
      have g1 : a.tmps[44]? = some (.bool true) := getD_some hI.sz (by omega) d14
      refine wpOp_value (v := .slice (some ⟨b, o + k, none⟩) (n - k) (c - k)) (w' := w) rfl (by simp [Region.wanted, yielded, g1]) (by have e18 : a.eval (.tmp 48) = .slice (some ⟨b, o, none⟩) n c := d18; have e19 : a.eval (.tmp 49) = .int .i64 k := d19;  go_simp) (hI.put hL rfl (by omega) rfl (Below.refl _ _) rfl)
    · cases ho
      have d17 : a.tmps.getD 47 undef = .slice (some ⟨b, o, none⟩) k c := hI.p 17 _ rfl (hdep ⟨17, .data⟩ (by simp) rfl)
      have d20 : a.tmps.getD 50 undef = .slice (some ⟨b, o + k, none⟩) (n - k) (c - k) := hI.p 20 _ rfl (hdep ⟨20, .data⟩ (by simp) rfl)
      have d14 : a.tmps.getD 44 undef = .bool true := hI.p 14 _ rfl (hdep ⟨14, .guard⟩ (by simp) rfl)
      have g1 : a.tmps[44]? = some (.bool true) := getD_some hI.sz (by omega) d14
      refine wpOp_value (v := .slice (some ⟨w.heap.size, 0, none⟩) 2 2) (w' := w.alloc (.cells #[.slice (some ⟨b, o, none⟩) k c, .slice (some ⟨b, o + k, none⟩) (n - k) (c - k)] 25)) rfl (by simp [Region.wanted, yielded, g1]) (by have e17 : a.tmps[47]?.getD undef = .slice (some ⟨b, o, none⟩) k c := (by rw [← Array.getD_eq_getD_getElem?]; exact d17); have e20 : a.tmps[50]?.getD undef = .slice (some ⟨b, o + k, none⟩) (n - k) (c - k) := (by rw [← Array.getD_eq_getD_getElem?]; exact d20); go_simp) (hI.put hL rfl (by omega) rfl ((Below.refl _ _).alloc (Nat.le_refl _) _) ⟨w.heap.size, rfl, RowAt.new _ _ _⟩)
    · cases ho
      obtain ⟨bb21, d21, r21⟩ : rowV #[.slice (some ⟨b, o, none⟩) k c, .slice (some ⟨b, o + k, none⟩) (n - k) (c - k)] (a.tmps.getD 51 undef) w := hI.p 21 _ rfl (hdep ⟨21, .data⟩ (by simp) rfl)
      have d14 : a.tmps.getD 44 undef = .bool true := hI.p 14 _ rfl (hdep ⟨14, .guard⟩ (by simp) rfl)
      have g1 : a.tmps[44]? = some (.bool true) := getD_some hI.sz (by omega) d14
      refine wpOp_enter (f := 7) (args := #[.slice (some ⟨bb21, 0, none⟩) 2 2]) rfl (by simp [Region.wanted, yielded, g1]) (by have e : a.eval (.tmp 51) = .slice (some ⟨bb21, 0, none⟩) 2 2 := d21; go_simp) (HA2.out w bb21 hI.s r21) ?_
      rintro e w' ⟨rfl, hb⟩
      exact ⟨_, rfl, hI.put hL rfl (by omega) rfl hb rfl⟩
    · cases ho
      have d99 := hI.b0
      have d14 : a.tmps.getD 44 undef = .bool true := hI.p 14 _ rfl (hdep ⟨14, .guard⟩ (by simp) rfl)
      have g1 : a.tmps[44]? = some (.bool true) := getD_some hI.sz (by omega) d14
      refine wpOp_value (v := .slice (some ⟨b, o, none⟩) n c) (w' := w) rfl (by simp [Region.wanted, yielded, g1]) (by have e : a.eval (.tmp 0) = .slice (some ⟨b, o, none⟩) n c := d99; go_simp) (hI.put hL rfl (by omega) rfl (Below.refl _ _) rfl)
    · cases ho
      have d23 : a.tmps.getD 53 undef = .slice (some ⟨b, o, none⟩) n c := hI.p 23 _ rfl (hdep ⟨23, .data⟩ (by simp) rfl)
      have d14 : a.tmps.getD 44 undef = .bool true := hI.p 14 _ rfl (hdep ⟨14, .guard⟩ (by simp) rfl)
      have g1 : a.tmps[44]? = some (.bool true) := getD_some hI.sz (by omega) d14
      refine wpOp_value (v := .slice (some ⟨w.heap.size, 0, none⟩) 1 1) (w' := w.alloc (.cells #[.slice (some ⟨b, o, none⟩) n c] 25)) rfl (by simp [Region.wanted, yielded, g1]) (by have e23 : a.tmps[53]?.getD undef = .slice (some ⟨b, o, none⟩) n c := (by rw [← Array.getD_eq_getD_getElem?]; exact d23); go_simp) (hI.put hL rfl (by omega) rfl ((Below.refl _ _).alloc (Nat.le_refl _) _) ⟨w.heap.size, rfl, RowAt.new _ _ _⟩)
    · cases ho
      obtain ⟨bb24, d24, r24⟩ : rowV #[.slice (some ⟨b, o, none⟩) n c] (a.tmps.getD 54 undef) w := hI.p 24 _ rfl (hdep ⟨24, .data⟩ (by simp) rfl)
      have d14 : a.tmps.getD 44 undef = .bool true := hI.p 14 _ rfl (hdep ⟨14, .guard⟩ (by simp) rfl)
      have g1 : a.tmps[44]? = some (.bool true) := getD_some hI.sz (by omega) d14
      refine wpOp_enter (f := 7) (args := #[.slice (some ⟨bb24, 0, none⟩) 1 1]) rfl (by simp [Region.wanted, yielded, g1]) (by have e : a.eval (.tmp 54) = .slice (some ⟨bb24, 0, none⟩) 1 1 := d24; go_simp) (HA.out w bb24 hI.s r24) ?_
      rintro e w' ⟨rfl, hb⟩
      exact ⟨_, rfl, hI.put hL rfl (by omega) rfl hb rfl⟩
    · cases ho
      have d22 : a.tmps.getD 52 undef = .int .u32 S := hI.p 22 _ rfl (hdep ⟨22, .data⟩ (by simp) rfl)
      have d25 : a.tmps.getD 55 undef = .int .u32 S := hI.p 25 _ rfl (hdep ⟨25, .data⟩ (by simp) rfl)
      have d14 : a.tmps.getD 44 undef = .bool true := hI.p 14 _ rfl (hdep ⟨14, .guard⟩ (by simp) rfl)
      have g1 : a.tmps[44]? = some (.bool true) := getD_some hI.sz (by omega) d14
      refine wpOp_value (v := .bool true) (w' := w) rfl (by simp [Region.wanted, yielded, g1]) (by have e22 : a.eval (.tmp 52) = .int .u32 S := d22; have e25 : a.eval (.tmp 55) = .int .u32 S := d25;  go_simp) (hI.put hL rfl (by omega) rfl (Below.refl _ _) rfl)
    · cases ho
      have d14 : a.tmps.getD 44 undef = .bool true := hI.p 14 _ rfl (hdep ⟨14, .data⟩ (by simp) rfl)
      have d26 : a.tmps.getD 56 undef = .bool true := hI.p 26 _ rfl (hdep ⟨26, .data⟩ (by simp) rfl)
      refine wpOp_value (v := .bool true) (w' := w) rfl rfl (by have e14 : a.eval (.tmp 44) = .bool true := d14; have e26 : a.eval (.tmp 56) = .bool true := d26;  go_simp) (hI.put hL rfl (by omega) rfl (Below.refl _ _) rfl)
    · cases ho
      have d27 : a.tmps.getD 57 undef = .bool true := hI.p 27 _ rfl (hdep ⟨27, .data⟩ (by simp) rfl)
      refine wpOp_value (v := .bool true) (w' := w) rfl rfl (by have e27 : a.eval (.tmp 57) = .bool true := d27;  go_simp) (hI.put hL rfl (by omega) rfl (Below.refl _ _) rfl)
    · cases ho
      have d99 := hI.b0
      have d28 : a.tmps.getD 58 undef = .bool true := hI.p 28 _ rfl (hdep ⟨28, .guard⟩ (by simp) rfl)
      have g1 : a.tmps[58]? = some (.bool true) := getD_some hI.sz (by omega) d28
      refine wpOp_value (v := .slice (some ⟨b, o, none⟩) n c) (w' := w) rfl (by simp [Region.wanted, yielded, g1]) (by have e : a.eval (.tmp 0) = .slice (some ⟨b, o, none⟩) n c := d99; go_simp) (hI.put hL rfl (by omega) rfl (Below.refl _ _) rfl)
    · cases ho
      have d99 := hI.b7
      have d28 : a.tmps.getD 58 undef = .bool true := hI.p 28 _ rfl (hdep ⟨28, .guard⟩ (by simp) rfl)
      have g1 : a.tmps[58]? = some (.bool true) := getD_some hI.sz (by omega) d28
      refine wpOp_value (v := .int .i64 k) (w' := w) rfl (by simp [Region.wanted, yielded, g1]) (by have e : a.eval (.tmp 7) = .int .i64 k := d99; go_simp) (hI.put hL rfl (by omega) rfl (Below.refl _ _) rfl)
    · cases ho
      have d29 : a.tmps.getD 59 undef = .slice (some ⟨b, o, none⟩) n c := hI.p 29 _ rfl (hdep ⟨29, .data⟩ (by simp) rfl)
      have d30 : a.tmps.getD 60 undef = .int .i64 k := hI.p 30 _ rfl (hdep ⟨30, .data⟩ (by simp) rfl)
      have d28 : a.tmps.getD 58 undef = .bool true := hI.p 28 _ rfl (hdep ⟨28, .guard⟩ (by simp) rfl)
      have g1 : a.tmps[58]? = some (.bool true) := getD_some hI.sz (by omega) d28
      refine wpOp_value (v := .slice (some ⟨b, o, none⟩) k c) (w' := w) rfl (by simp [Region.wanted, yielded, g1]) (by have e29 : a.eval (.tmp 59) = .slice (some ⟨b, o, none⟩) n c := d29; have e30 : a.eval (.tmp 60) = .int .i64 k := d30;  go_simp) (hI.put hL rfl (by omega) rfl (Below.refl _ _) rfl)
    · cases ho
      have d31 : a.tmps.getD 61 undef = .slice (some ⟨b, o, none⟩) k c := hI.p 31 _ rfl (hdep ⟨31, .data⟩ (by simp) rfl)
      have d28 : a.tmps.getD 58 undef = .bool true := hI.p 28 _ rfl (hdep ⟨28, .guard⟩ (by simp) rfl)
      have g1 : a.tmps[58]? = some (.bool true) := getD_some hI.sz (by omega) d28
      refine wpOp_value (v := .slice (some ⟨w.heap.size, 0, none⟩) 1 1) (w' := w.alloc (.cells #[.slice (some ⟨b, o, none⟩) k c] 25)) rfl (by simp [Region.wanted, yielded, g1]) (by have e31 : a.tmps[61]?.getD undef = .slice (some ⟨b, o, none⟩) k c := (by rw [← Array.getD_eq_getD_getElem?]; exact d31); go_simp) (hI.put hL rfl (by omega) rfl ((Below.refl _ _).alloc (Nat.le_refl _) _) ⟨w.heap.size, rfl, RowAt.new _ _ _⟩)
    · cases ho
      obtain ⟨bb32, d32, r32⟩ : rowV #[.slice (some ⟨b, o, none⟩) k c] (a.tmps.getD 62 undef) w := hI.p 32 _ rfl (hdep ⟨32, .data⟩ (by simp) rfl)
      have d28 : a.tmps.getD 58 undef = .bool true := hI.p 28 _ rfl (hdep ⟨28, .guard⟩ (by simp) rfl)
      have g1 : a.tmps[58]? = some (.bool true) := getD_some hI.sz (by omega) d28
      refine wpOp_enter (f := 7) (args := #[.slice (some ⟨bb32, 0, none⟩) 1 1]) rfl (by simp [Region.wanted, yielded, g1]) (by have e : a.eval (.tmp 62) = .slice (some ⟨bb32, 0, none⟩) 1 1 := d32; go_simp) (HAT.out w bb32 hI.s r32) ?_
      rintro e w' ⟨rfl, hb⟩
      exact ⟨_, rfl, hI.put hL rfl (by omega) rfl hb rfl⟩
    · cases ho
      have d99 := hI.b0
      have d28 : a.tmps.getD 58 undef = .bool true := hI.p 28 _ rfl (hdep ⟨28, .guard⟩ (by simp) rfl)
      have g1 : a.tmps[58]? = some (.bool true) := getD_some hI.sz (by omega) d28
      refine wpOp_value (v := .slice (some ⟨b, o, none⟩) n c) (w' := w) rfl (by simp [Region.wanted, yielded, g1]) (by have e : a.eval (.tmp 0) = .slice (some ⟨b, o, none⟩) n c := d99; go_simp) (hI.put hL rfl (by omega) rfl (Below.refl _ _) rfl)
    · cases ho
      have d99 := hI.b7
      have d28 : a.tmps.getD 58 undef = .bool true := hI.p 28 _ rfl (hdep ⟨28, .guard⟩ (by simp) rfl)
      have g1 : a.tmps[58]? = some (.bool true) := getD_some hI.sz (by omega) d28
      refine wpOp_value (v := .int .i64 k) (w' := w) rfl (by simp [Region.wanted, yielded, g1]) (by have e : a.eval (.tmp 7) = .int .i64 k := d99; go_simp) (hI.put hL rfl (by omega) rfl (Below.refl _ _) rfl)
    · cases ho
      have d34 : a.tmps.getD 64 undef = .slice (some ⟨b, o, none⟩) n c := hI.p 34 _ rfl (hdep ⟨34, .data⟩ (by simp) rfl)
      have d35 : a.tmps.getD 65 undef = .int .i64 k := hI.p 35 _ rfl (hdep ⟨35, .data⟩ (by simp) rfl)
      have d28 : a.tmps.getD 58 undef = .bool true := hI.p 28 _ rfl (hdep ⟨28, .guard⟩ (by simp) rfl)
      have g1 : a.tmps[58]? = some (.bool true) := getD_some hI.sz (by omega) d28
      refine wpOp_value (v := .slice (some ⟨b, o + k, none⟩) (n - k) (c - k)) (w' := w) rfl (by simp [Region.wanted, yielded, g1]) (by have e34 : a.eval (.tmp 64) = .slice (some ⟨b, o, none⟩) n c := d34; have e35 : a.eval (.tmp 65) = .int .i64 k := d35;  go_simp) (hI.put hL rfl (by omega) rfl (Below.refl _ _) rfl)
    · cases ho
      have d33 : a.tmps.getD 63 undef = .int .u32 T := hI.p 33 _ rfl (hdep ⟨33, .data⟩ (by simp) rfl)
      have d36 : a.tmps.getD 66 undef = .slice (some ⟨b, o + k, none⟩) (n - k) (c - k) := hI.p 36 _ rfl (hdep ⟨36, .data⟩ (by simp) rfl)
      have d28 : a.tmps.getD 58 undef = .bool true := hI.p 28 _ rfl (hdep ⟨28, .guard⟩ (by simp) rfl)
      have g1 : a.tmps[58]? = some (.bool true) := getD_some hI.sz (by omega) d28
      refine wpOp_enter (f := 8) (args := #[.int .u32 T, .slice (some ⟨b, o + k, none⟩) (n - k) (c - k)]) rfl (by simp [Region.wanted, yielded, g1]) (by have e1 : a.eval (.tmp 63) = .int .u32 T := d33; have e2 : a.eval (.tmp 66) = .slice (some ⟨b, o + k, none⟩) (n - k) (c - k) := d36; go_simp) (HMO.out w hI.s) ?_
      rintro e w' ⟨rfl, hb⟩
      exact ⟨_, rfl, hI.put hL rfl (by omega) rfl hb rfl⟩
    · cases ho
      have d99 := hI.b0
      have d28 : a.tmps.getD 58 undef = .bool true := hI.p 28 _ rfl (hdep ⟨28, .guard⟩ (by simp) rfl)
      have g1 : a.tmps[58]? = some (.bool true) := getD_some hI.sz (by omega) d28
      refine wpOp_value (v := .slice (some ⟨b, o, none⟩) n c) (w' := w) rfl (by simp [Region.wanted, yielded, g1]) (by have e : a.eval (.tmp 0) = .slice (some ⟨b, o, none⟩) n c := d99; go_simp) (hI.put hL rfl (by omega) rfl (Below.refl _ _) rfl)
    · cases ho
      have d38 : a.tmps.getD 68 undef = .slice (some ⟨b, o, none⟩) n c := hI.p 38 _ rfl (hdep ⟨38, .data⟩ (by simp) rfl)
      have d28 : a.tmps.getD 58 undef = .bool true := hI.p 28 _ rfl (hdep ⟨28, .guard⟩ (by simp) rfl)
      have g1 : a.tmps[58]? = some (.bool true) := getD_some hI.sz (by omega) d28
      refine wpOp_value (v := .slice (some ⟨w.heap.size, 0, none⟩) 1 1) (w' := w.alloc (.cells #[.slice (some ⟨b, o, none⟩) n c] 25)) rfl (by simp [Region.wanted, yielded, g1]) (by have e38 : a.tmps[68]?.getD undef = .slice (some ⟨b, o, none⟩) n c := (by rw [← Array.getD_eq_getD_getElem?]; exact d38); go_simp) (hI.put hL rfl (by omega) rfl ((Below.refl _ _).alloc (Nat.le_refl _) _) ⟨w.heap.size, rfl, RowAt.new _ _ _⟩)
    · cases ho
      obtain ⟨bb39, d39, r39⟩ : rowV #[.slice (some ⟨b, o, none⟩) n c] (a.tmps.getD 69 undef) w := hI.p 39 _ rfl (hdep ⟨39, .data⟩ (by simp) rfl)
      have d28 : a.tmps.getD 58 undef = .bool true := hI.p 28 _ rfl (hdep ⟨28, .guard⟩ (by simp) rfl)
      have g1 : a.tmps[58]? = some (.bool true) := getD_some hI.sz (by omega) d28
      refine wpOp_enter (f := 7) (args := #[.slice (some ⟨bb39, 0, none⟩) 1 1]) rfl (by simp [Region.wanted, yielded, g1]) (by have e : a.eval (.tmp 69) = .slice (some ⟨bb39, 0, none⟩) 1 1 := d39; go_simp) (HA.out w bb39 hI.s r39) ?_
      rintro e w' ⟨rfl, hb⟩
      exact ⟨_, rfl, hI.put hL rfl (by omega) rfl hb rfl⟩
    · cases ho
      have d37 : a.tmps.getD 67 undef = .int .u32 S := hI.p 37 _ rfl (hdep ⟨37, .data⟩ (by simp) rfl)
      have d40 : a.tmps.getD 70 undef = .int .u32 S := hI.p 40 _ rfl (hdep ⟨40, .data⟩ (by simp) rfl)
      have d28 : a.tmps.getD 58 undef = .bool true := hI.p 28 _ rfl (hdep ⟨28, .guard⟩ (by simp) rfl)
      have g1 : a.tmps[58]? = some (.bool true) := getD_some hI.sz (by omega) d28
      refine wpOp_value (v := .bool true) (w' := w) rfl (by simp [Region.wanted, yielded, g1]) (by have e37 : a.eval (.tmp 67) = .int .u32 S := d37; have e40 : a.eval (.tmp 70) = .int .u32 S := d40;  go_simp) (hI.put hL rfl (by omega) rfl (Below.refl _ _) rfl)
    · cases ho
      have d28 : a.tmps.getD 58 undef = .bool true := hI.p 28 _ rfl (hdep ⟨28, .data⟩ (by simp) rfl)
      have d41 : a.tmps.getD 71 undef = .bool true := hI.p 41 _ rfl (hdep ⟨41, .data⟩ (by simp) rfl)
      refine wpOp_value (v := .bool true) (w' := w) rfl rfl (by have e28 : a.eval (.tmp 58) = .bool true := d28; have e41 : a.eval (.tmp 71) = .bool true := d41;  go_simp) (hI.put hL rfl (by omega) rfl (Below.refl _ _) rfl)
    · cases ho
      have d42 : a.tmps.getD 72 undef = .bool true := hI.p 42 _ rfl (hdep ⟨42, .data⟩ (by simp) rfl)
      refine wpOp_value (v := .bool true) (w' := w) rfl rfl (by have e42 : a.eval (.tmp 72) = .bool true := d42;  go_simp) (hI.put hL rfl (by omega) rfl (Below.refl _ _) rfl)
  · intro listed a w hI hr
    have hl := all_listed (by kernel_rfl) hI.ls hr 43 (by show 43 < 44; omega)
    have h6 : a.tmps.getD 6 undef = .bool true := hI.p 43 _ rfl hl
    have hdf := hI.df
    have hs := hI.s
    have hbel : Below w0.heap.size w0 w := HW0.out.trans (hs.mono HW0.out.size)
    simp only [Exit.then]
    refine (by assumption : ∀ (a : Act) (w : World), Code.wp _ Code.ret _ a w → _) a w ?_
    go_wp2
    refine bodyPost_ret (results_tmp rfl _ _ _) hdf ⟨?_, hbel⟩
    rw [h6]

theorem one_walk (A : Option Addr) (n c : Nat) (zs : List Int) (at_ z : Int) (w : World) (hb : Byt w w.heap.size A n c zs) (hn : n ≤ 9223372036854775807) (a0 : 0 ≤ at_) (a1 : at_ ≤ 65535) (z0 : 0 ≤ z) (z1 : z ≤ 255) :
    Calls Try.prog 5 #[.slice A n c, .int .u16 at_, .int .u8 z] w fun e w' => e = .returned (.bool true) ∧ Below w.heap.size w w' := by
  by_cases h : 0 < n ∧ n ≤ 2000
  · exact one_main A n c zs at_ z w hb h.1 h.2 a0 a1 z0 z1
  · have HAW := Lib.hid (awake_any w)
    have hways : ((n : Int) == 0) = true ∨ (((n : Int) == 0) = false ∧ (2000 : Int) < n) := by
      by_cases h0 : n = 0
      · exact .inl (beq_iff_eq.2 (by omega))
      · exact .inr ⟨beq_eq_false_iff_ne.2 (by omega), by omega⟩
    clear hb h
    rcases hways with h1 | ⟨h1, h2⟩
    all_goals
      go_enter Try.func5, Try.ntmps5
      go_wp2_with (first
        | (go_at_call 6; refine HAW.out.mono ?_; rintro e w1 ⟨rfl, q1⟩))
      go_ret
      exact ⟨rfl, q1⟩

set_option maxRecDepth 100000 in
theorem one_lifted (os : Os) (started : os.Started) (H : Type) (enc : TypeId × Value → H) :
    ReturnsInHanded {} Try.checked os 5 .any (Rows.sumsOneSpec.pre6 enc Try.prog Try.f5 Rows.sumsOneRow.domain false) (Rows.sumsOneSpec.post enc Try.prog Try.f5 false true false false) := by
  refine returnsInHanded_of_change (C := Try.checked) own started (by kernel_rfl) Try.func5
    (ChangeSpec.witness6 (enc := enc) (C := Try.checked) false ⟨#[], #[.slice none 0 0, .int .u16 0, .int .u8 0], []⟩ 8 (by kernel_rfl) (by kernel_rfl) (by kernel_rfl) (by kernel_rfl)) ?_
  intro W base args ds gs before hval0 hW hcnd _
  have hval : ∀ (j : Nat) t v, Try.f5.params[j]? = some t → args[j]? = some v → Value.okWide Try.prog W .any base t v := hval0
  have hW' := hW
  obtain ⟨p, q, hA0, hV, rfl, hfz, hnd⟩ := hW
  have hA : DataW.TrodAll enc Try.prog W 0 (fun _ => true) true Try.f5.params.toList args.toList ds p := hA0
  rw [Try.params5] at hA hval
  obtain ⟨v0, vs0, d0, ds0, p0, q0, hargs, rfl, rfl, h0, r0⟩ := trodAll_cons hA
  obtain ⟨v1, vs1, d1, ds1, p1, q1, rfl, rfl, rfl, h1, r1⟩ := trodAll_cons r0
  obtain ⟨v2, vs2, d2, ds2, p2, q2, rfl, rfl, rfl, h2, r2⟩ := trodAll_cons r1
  obtain ⟨rfl, rfl, rfl⟩ := trodAll_nil r2
  obtain rfl : args = #[v0, v1, v2] := by cases args; simp_all
  obtain ⟨rfl, rfl⟩ := trodVars_none hV
  obtain ⟨a0, len0, cap0, rfl⟩ := okWide_slice Try.underlying25 (hval 0 25 v0 rfl rfl)
  obtain ⟨zs0, hz0, hcm0⟩ := open_bytes h0 (fun _ => rfl)
  have lt0 : ∀ x ∈ p0, x.block < W.heap.size := by obtain ⟨m, hm⟩ := h0; exact DataW.trod_lt m _ _ _ hm
  obtain ⟨x1, rfl⟩ := okWide_int Try.underlying30 (hval 1 30 v1 rfl rfl)
  obtain ⟨lo1, hi1⟩ := open_intk Try.underlying30 h1
  rw [show IntKind.u16.min = 0 by decide] at lo1
  rw [show IntKind.u16.max = 65535 by decide] at hi1
  have lt1 : ∀ x ∈ p1, x.block < W.heap.size := by obtain ⟨m, hm⟩ := h1; exact DataW.trod_lt m _ _ _ hm
  obtain ⟨x2, rfl⟩ := okWide_int Try.underlying5 (hval 2 5 v2 rfl rfl)
  obtain ⟨lo2, hi2⟩ := open_intk Try.underlying5 h2
  rw [show IntKind.u8.min = 0 by decide] at lo2
  rw [show IntKind.u8.max = 255 by decide] at hi2
  have lt2 : ∀ x ∈ p2, x.block < W.heap.size := by obtain ⟨m, hm⟩ := h2; exact DataW.trod_lt m _ _ _ hm
  have hmx : maxLen = 9223372036854775807 := by decide
  clear hA0 hval0
  refine (one_walk a0 len0 cap0 zs0 x1 x2 W hz0 (by have := hz0.cap; omega) lo1 hi1 lo2 hi2).mono fun e W' ⟨he, bel⟩ => ?_
  subst he
  exact ⟨_, rfl, _, _, _, [], _, [], hW', trodAll_mk1 (shut_bool Try.underlying4 _), (trodAll_cons_mk (Below.trod laidOut (by kernel_rfl) (of_decide_eq_true (by kernel_rfl)) h0 bel lt0) (trodAll_cons_mk (Below.trod laidOut (by kernel_rfl) (of_decide_eq_true (by kernel_rfl)) h1 bel lt1) (trodAll_cons_mk (Below.trod laidOut (by kernel_rfl) (of_decide_eq_true (by kernel_rfl)) h2 bel lt2) trodAll_mk0))), rfl, bel.frame _, fun h => by cases h⟩

/-- SumsOne: it answers true. -/
theorem one_holds : Rows.SumsOneSaid :=
  OpenClaim.holds_of_wide 5 Try.f5 rfl rfl rfl rfl rfl rfl rfl ⟨rfl, rfl, rfl, rfl, rfl⟩ rfl rfl rfl rfl rfl (by kernel_rfl) Try.func5 (by kernel_rfl)
    (of_decide_eq_true (by kernel_rfl)) (by unfold Func.isWrapper; first | (rw [if_pos (by decide +kernel)]; kernel_rfl) | (rw [if_neg (by decide +kernel)]; exact ⟨rfl, rfl⟩))
    (fun os started H enc _ => one_lifted os started H enc)
#print axioms one_holds

end Go.Proofs.Ytfmbbeaojkhmjaa
