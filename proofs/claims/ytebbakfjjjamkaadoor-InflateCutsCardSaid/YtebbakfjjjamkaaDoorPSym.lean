/- The project's own codes (package inflate): sort, codeOf, symbol. -/
import Derived.Test.YtebbakfjjjamkaaDoorPCode
import Derived.Deep.DeepCutAuto
import Derived.Deep.CutBlock
namespace Go.Proofs.YtebbakfjjjamkaaDoor
open Go.RowKit
set_option linter.unusedVariables false
set_option maxRecDepth 100000

/-- A row of numbers that the call made, of whatever type: block g. -/
def IRowT (w : World) (g : Nat) (xs : List Int) (t : TypeId) : Prop := w.heap[g]? = some (.cells ((xs.map (Value.int .i64)).toArray) t (0, 0))
section
variable {w w' : World} {g : Nat} {xs : List Int} {t : TypeId}
theorem IRowT.lt (h : IRowT w g xs t) : g < w.heap.size := by
  rcases Nat.lt_or_ge g w.heap.size with hlt | hge
  · exact hlt
  · unfold IRowT at h; rw [Array.getElem?_eq_none hge] at h; cases h
theorem IRowT.cell (h : IRowT w g xs t) (i : Nat) (hi : i < xs.length) : w.cell? ⟨g, i, none⟩ = some (.int .i64 (xs.getD i 0)) := by
  rw [cell_of_row w g i _ t (0, 0) h]
  simp [List.getD, hi]
theorem IRowT.fr (h : IRowT w g xs t) (i : Nat) : w.frozen? ⟨g, i, none⟩ = false := by
  unfold IRowT at h
  simp [World.frozen?, h]
theorem IRowT.put (h : IRowT w g xs t) (i : Nat) (z : Int) : IRowT (w.setCell ⟨g, i, none⟩ (.int .i64 z)) g (xs.set i z) t := by
  unfold IRowT at h ⊢
  simp [World.setCell, Array.getElem?_modify, h, List.map_set]
theorem IRowT.other (h : IRowT w g xs t) {k i : Nat} {u : Value} (hk : g ≠ k) : IRowT (w.setCell ⟨k, i, none⟩ u) g xs t := (Below.heap_setCell w ⟨k, i, none⟩ u g hk).trans h
end
theorem RawC.other {w : World} {h k i : Nat} {M S : List Int} {u : Value} (r : RawC w h M S) (hk : h ≠ k) : RawC (w.setCell ⟨k, i, none⟩ u) h M S := (Below.heap_setCell w ⟨k, i, none⟩ u h hk).trans r
theorem Only.setNew {a g i : Nat} {x y : World} {u : Value} (h : Only a x y) (hg : x.heap.size ≤ g) : Only a x (y.setCell ⟨g, i, none⟩ u) :=
  ⟨h.os, h.tape, h.output, by simpa [World.setCell] using h.size, fun k hk hne => (Below.heap_setCell y ⟨g, i, none⟩ u k (by simp; omega)).trans (h.block k hk hne)⟩

theorem idx16 (m : Nat → Int) (K : Nat) (hK : K < 16) : ∀ W : World, (Instr.index 107 (.agg #[Value.int .i64 (m 0), Value.int .i64 (m 1), Value.int .i64 (m 2), Value.int .i64 (m 3), Value.int .i64 (m 4), Value.int .i64 (m 5), Value.int .i64 (m 6), Value.int .i64 (m 7), Value.int .i64 (m 8), Value.int .i64 (m 9), Value.int .i64 (m 10), Value.int .i64 (m 11), Value.int .i64 (m 12), Value.int .i64 (m 13), Value.int .i64 (m 14), Value.int .i64 (m 15)]) (.int .i64 (K : Int))).run Tryd.prog W = .ok (.int .i64 (m K)) W := by
  rcases (show K = 0 ∨ K = 1 ∨ K = 2 ∨ K = 3 ∨ K = 4 ∨ K = 5 ∨ K = 6 ∨ K = 7 ∨ K = 8 ∨ K = 9 ∨ K = 10 ∨ K = 11 ∨ K = 12 ∨ K = 13 ∨ K = 14 ∨ K = 15 by omega) with rfl | rfl | rfl | rfl | rfl | rfl | rfl | rfl | rfl | rfl | rfl | rfl | rfl | rfl | rfl | rfl
  · exact fun _ => by kernel_rfl
  · exact fun _ => by kernel_rfl
  · exact fun _ => by kernel_rfl
  · exact fun _ => by kernel_rfl
  · exact fun _ => by kernel_rfl
  · exact fun _ => by kernel_rfl
  · exact fun _ => by kernel_rfl
  · exact fun _ => by kernel_rfl
  · exact fun _ => by kernel_rfl
  · exact fun _ => by kernel_rfl
  · exact fun _ => by kernel_rfl
  · exact fun _ => by kernel_rfl
  · exact fun _ => by kernel_rfl
  · exact fun _ => by kernel_rfl
  · exact fun _ => by kernel_rfl
  · exact fun _ => by kernel_rfl
set_option maxHeartbeats 2000000 in
theorem psort (A : Option Addr) (n c B h : Nat) (l : List Int) (w : World) (hl : Nums w B A n c l) (hB : B ≤ w.heap.size) (hn : n ≤ 288) (h0 : ∀ i, 0 ≤ l.getD i 0) (h15 : ∀ i, l.getD i 0 ≤ 15) (hr : RawC w h (manyK l l.length) (List.replicate 288 0)) (hBh : B ≤ h) :
    Calls Tryd.prog 69 #[.pointer (some ⟨h, 0, none⟩), .slice A n c] w fun e w' => e = .returned (.tuple #[]) ∧ CB w' h l ∧ Only h w w' := by
  have hlen := hl.len
  have hhg : h < w.heap.size := hr.lt
  have HL := Lib.hid (fun W (hW : Only h w W) => hl.only hW hBh (by omega))
  have hal : ∀ o, RawC (w.alloc o) h (manyK l l.length) (List.replicate 288 0) := fun o => (((Below.refl w.heap.size w).alloc (Nat.le_refl _) o).block h hr.lt).trans hr
  have hmc : ∀ i, i < 16 → ∀ o, (w.alloc o).cell? ⟨h, i, none⟩ = some (.int .i64 ((manyK l l.length).getD i 0)) := fun i hi o => (hal o).many i (by rw [manyK_len]; exact hi)
  obtain ⟨W0, hW0⟩ : ∃ W0, w.alloc (.cells #[.int .i64 0, .int .i64 0, .int .i64 0, .int .i64 0, .int .i64 0, .int .i64 0, .int .i64 0, .int .i64 0, .int .i64 0, .int .i64 0, .int .i64 0, .int .i64 0, .int .i64 0, .int .i64 0, .int .i64 0, .int .i64 0, .int .i64 0] 119) = W0 := ⟨_, rfl⟩
  have HW0 := Lib.hid hW0
  have HRAW := Lib.hid (hW0 ▸ hal (.cells #[.int .i64 0, .int .i64 0, .int .i64 0, .int .i64 0, .int .i64 0, .int .i64 0, .int .i64 0, .int .i64 0, .int .i64 0, .int .i64 0, .int .i64 0, .int .i64 0, .int .i64 0, .int .i64 0, .int .i64 0, .int .i64 0, .int .i64 0] 119))
  have hrow : IRowT (w.alloc (.cells #[.int .i64 0, .int .i64 0, .int .i64 0, .int .i64 0, .int .i64 0, .int .i64 0, .int .i64 0, .int .i64 0, .int .i64 0, .int .i64 0, .int .i64 0, .int .i64 0, .int .i64 0, .int .i64 0, .int .i64 0, .int .i64 0, .int .i64 0] 119)) w.heap.size (headK l 0) 119 := by
    rw [headK_zero]; exact heap_alloc_new w _
  have HROW := Lib.hid (hW0 ▸ hrow)
  have HON := Lib.hid (hW0 ▸ (Only.refl h w).alloc (.cells #[.int .i64 0, .int .i64 0, .int .i64 0, .int .i64 0, .int .i64 0, .int .i64 0, .int .i64 0, .int .i64 0, .int .i64 0, .int .i64 0, .int .i64 0, .int .i64 0, .int .i64 0, .int .i64 0, .int .i64 0, .int .i64 0, .int .i64 0] 119))
  obtain ⟨m, hm⟩ : ∃ m : Nat → Int, (fun i => (manyK l l.length).getD i 0) = m := ⟨_, rfl⟩
  have hmm : ∀ i, (manyK l l.length).getD i 0 = m i := fun i => by rw [← hm]
  simp only [hmm] at hmc
  have HMM := Lib.hid hmm
  have HST := Lib.hid (fun K (hK : K < 16) => headK_step l K hK)
  have HX := Lib.hid (idx16 m)
  have c0 := hmc 0 (by omega)
  have c1 := hmc 1 (by omega)
  have c2 := hmc 2 (by omega)
  have c3 := hmc 3 (by omega)
  have c4 := hmc 4 (by omega)
  have c5 := hmc 5 (by omega)
  have c6 := hmc 6 (by omega)
  have c7 := hmc 7 (by omega)
  have c8 := hmc 8 (by omega)
  have c9 := hmc 9 (by omega)
  have c10 := hmc 10 (by omega)
  have c11 := hmc 11 (by omega)
  have c12 := hmc 12 (by omega)
  have c13 := hmc 13 (by omega)
  have c14 := hmc 14 (by omega)
  have c15 := hmc 15 (by omega)
  have HLEN := Lib.hid hlen
  have H0 := Lib.hid h0
  have H15 := Lib.hid h15
  have HMB : Hid (∀ K, K < 16 → 0 ≤ m K ∧ m K ≤ 288) := Lib.hid fun K hK => by
    rw [← hmm K, manyK_at l _ K hK]
    have := cntN_bd l (K : Int) l.length
    split <;> omega
  have HPB : Hid (∀ K, 0 ≤ pasK l l.length K ∧ pasK l l.length K ≤ 288) := Lib.hid fun K => by have := pasK_bd l K l.length; omega
  clear hmm hm hmc hl hr hal hrow hlen h0 h15 hW0
  go_enter Tryd.func69, Tryd.ntmps69
  go_upto_region 2 with fail
  clear c0 c1 c2 c3 c4 c5 c6 c7 c8 c9 c10 c11 c12 c13 c14 c15
  rw [HW0.out]
  have hx := HX.out
  obtain ⟨X, hX⟩ : ∃ X : Array Value, #[.int .i64 (m 0), .int .i64 (m 1), .int .i64 (m 2), .int .i64 (m 3), .int .i64 (m 4), .int .i64 (m 5), .int .i64 (m 6), .int .i64 (m 7), .int .i64 (m 8), .int .i64 (m 9), .int .i64 (m 10), .int .i64 (m 11), .int .i64 (m 12), .int .i64 (m 13), .int .i64 (m 14), .int .i64 (m 15)] = X := ⟨_, rfl⟩
  rw [hX] at hx ⊢
  have HXX := Lib.hid hx
  clear hX hx
  go_loopw [13] (fun i wr => ∃ K : Nat, K ≤ 16 ∧ i = .int .i64 K ∧ Hid (IRowT wr w.heap.size (headK l K) 119) ∧ Hid (RawC wr h (manyK l l.length) (List.replicate 288 0)) ∧ Hid (Only h w wr)) (fun i _ => 16 - (intOf i).toNat)
  case atStart => exact ⟨0, Nat.zero_le _, rfl, HROW, HRAW, HON⟩
  case round =>
    obtain ⟨K, hK, rfl, HR, HC, HO⟩ := hrel
    by_cases hlt : K < 16
    · have hxk := HXX.out K hlt
      have hk0 := HR.out.cell K (by rw [headK_len]; omega)
      have hk1 := HR.out.cell (K + 1) (by rw [headK_len]; omega)
      rw [headK_at l K K (by omega), if_pos (Nat.le_refl _)] at hk0
      have hf := HR.out.fr (K + 1)
      have hpb := HPB.out K
      have hmb := HMB.out K hlt
      have hst := HST.out K hlt
      rw [HMM.out K] at hst
      obtain ⟨z, hz⟩ : ∃ z, pasK l l.length K = z := ⟨_, rfl⟩
      obtain ⟨y, hy⟩ : ∃ y, m K = y := ⟨_, rfl⟩
      rw [hz] at hk0 hpb hst
      rw [hy] at hxk hmb hst
      have HSTK := Lib.hid hst
      have e1 : IntKind.i64.wrap (z + y) = z + y := IntWalk.i64_in _ (by omega)
      have e2 : ((K : Int) + 1).toNat = K + 1 := by omega
      clear hz hy hst
      go_wp2
      go_roundw
      case rel => exact ⟨K + 1, by omega, by go_num, Lib.hid (by rw [HSTK.out]; exact HR.out.put (K + 1) _), Lib.hid (HC.out.other (by omega)), Lib.hid (HO.out.setNew (Nat.le_refl _))⟩
      case measure => simp [intOf]; omega
    · obtain rfl : K = 16 := by omega
      have hr2 := HR.out
      rw [headK_next] at hr2
      have HR2 := Lib.hid hr2
      clear hr2
      go_upto_region 7 with fail
      go_loopw [28] (fun i ws => ∃ j : Nat, j ≤ n ∧ i = .int .i64 j ∧ Hid (IRowT ws w.heap.size (nextK l j) 119) ∧ Hid (∃ S : List Int, S.length = 288 ∧ RawC ws h (manyK l l.length) S ∧ ∀ i, i < j → 1 ≤ l.getD i 0 → S.getD (posZ l i).toNat 0 = i) ∧ Hid (Only h w ws)) (fun i _ => n - (intOf i).toNat)
      case atStart => exact ⟨0, Nat.zero_le _, rfl, HR2, Lib.hid ⟨_, by simp, HC.out, fun i hi => absurd hi (by omega)⟩, HO⟩
      case round =>
        obtain ⟨j, hj, rfl, HRj, HSj, HOj⟩ := hrel
        by_cases hlt : j < n
        · obtain ⟨b, o, rfl, _, hcell⟩ := (HL.out _ HOj.out).cell (by omega)
          have kx := hcell j hlt
          have hx0 := H0.out j
          have hx15 := H15.out j
          by_cases hxp : 0 < l.getD j 0
          · obtain ⟨S, hS, hC, hSi⟩ := HSj.out
            obtain ⟨L, hL⟩ : ∃ L : Nat, l.getD j 0 = L := ⟨(l.getD j 0).toNat, by omega⟩
            have hpos := posZ_bd l j (by rw [HLEN.out]; exact hlt) (by omega)
            rw [HLEN.out] at hpos
            have hnx := HRj.out.cell L (by rw [nextK_len]; omega)
            rw [nextK_at l j L (by omega), if_neg (by omega), show pasK l l.length L + cntN l (L : Int) j = posZ l j by unfold posZ; rw [hL, Int.toNat_natCast]] at hnx
            have hst := nextK_step l j L (by omega) (by omega) hL
            have hinj := fun i (hi : i < j) (h1 : 1 ≤ l.getD i 0) => posZ_inj l i j (by rw [HLEN.out]; omega) (by rw [HLEN.out]; omega) h1 (by omega) hi
            have hpi := fun i (hi : i < j) (h1 : 1 ≤ l.getD i 0) => (posZ_bd l i (by rw [HLEN.out]; omega) h1).1
            obtain ⟨P, hP⟩ : ∃ P : Nat, posZ l j = P := ⟨(posZ l j).toNat, by omega⟩
            rw [hP] at hpos hnx hst hinj
            have hsy := hC.symb P (by rw [hS]; omega)
            have hps := fun z => hC.putS P z
            rw [manyK_len] at hsy hps
            have HPS := Lib.hid hps
            have HST2 := Lib.hid hst
            have HNEW : Hid (∀ i, i < j + 1 → 1 ≤ l.getD i 0 → (S.set P (j : Int)).getD (posZ l i).toNat 0 = i) := Lib.hid fun i hi h1 => by
              rcases Nat.lt_succ_iff_lt_or_eq.1 hi with h | h
              · have h2 := hinj i h h1
                have h3 := hpi i h h1
                have h4 := hSi i h h1
                rw [← h4]
                simp only [List.getD_eq_getElem?_getD]
                rw [List.getElem?_set_ne (by omega)]
              · subst h
                rw [hP, Int.toNat_natCast]
                simp [List.getD, hS, show P < 288 by omega]
            have HSL : Hid ((S.set P (j : Int)).length = 288) := Lib.hid (by simp [hS])
            have hfh := hC.fr (16 + P)
            have hfg := HRj.out.fr L
            rw [hL] at kx hxp
            have e1 : IntKind.u16.wrap (j : Int) = j := by rw [IntKind.wrap_u16]; omega
            have e2 : IntKind.i64.wrap ((P : Int) + 1) = (P : Int) + 1 := IntWalk.i64_in _ (by omega)
            have hne : ¬ w.heap.size = h := by omega
            have hne2 : ¬ h = w.heap.size := by omega
            have hL16 : (L : Int) < 17 := by omega
            have hP288 : (P : Int) < 288 := by omega
            obtain ⟨sv, hsv⟩ : ∃ sv, S.getD P 0 = sv := ⟨_, rfl⟩
            rw [hsv] at hsy
            clear hcell hx0 hx15 hC hSi hL hpos hst hinj hpi hps hsv
            go_wp2_with fail
            go_region
            all_goals
              go_wp2_with fail
              go_roundw
              case rel => exact ⟨j + 1, by omega, by go_num, Lib.hid (by rw [HST2.out]; exact (IRowT.other (show IRowT _ _ _ _ from HRj.out) (by omega)).put L _), Lib.hid ⟨_, HSL.out, (show RawC _ _ _ _ from HPS.out _).other (by omega), HNEW.out⟩, Lib.hid (((HOj.out.drewN 1).set_ _ _).setNew (Nat.le_refl _))⟩
              case measure => simp [intOf]; omega
          · have hst := nextK_keep l j (by omega)
            have HST2 := Lib.hid hst
            have HNEW : Hid (∃ S : List Int, S.length = 288 ∧ RawC wr h (manyK l l.length) S ∧ ∀ i, i < j + 1 → 1 ≤ l.getD i 0 → S.getD (posZ l i).toNat 0 = i) := by
              obtain ⟨S, hS, hC, hSi⟩ := HSj.out
              exact Lib.hid ⟨S, hS, hC, fun i hi h1 => by
                rcases Nat.lt_succ_iff_lt_or_eq.1 hi with h | h
                · exact hSi i h h1
                · subst h; omega⟩
            obtain ⟨x, hx⟩ : ∃ x, l.getD j 0 = x := ⟨_, rfl⟩
            rw [hx] at kx hxp
            clear hcell hx0 hx15 hst hx
            go_wp2_with fail
            go_roundw
            case rel => exact ⟨j + 1, by omega, by go_num, Lib.hid (by rw [HST2.out]; exact HRj.out), HNEW, HOj⟩
            case measure => simp [intOf]; omega
        · obtain rfl : j = n := by omega
          have HCB : Hid (CB wr h l) := by
            obtain ⟨S, hS, hC, hSi⟩ := HSj.out
            exact Lib.hid ⟨⟨S, hS, hC, fun i hi h1 => hSi i (by rw [← HLEN.out]; exact hi) h1⟩, by rw [HLEN.out]; exact hn, H0.out, H15.out⟩
          go_wp2
          (try simp only [Exit.inBlock, Exit.then])
          refine ⟨rfl, _, results_none rfl _ _ _, ?_⟩
          exact ⟨rfl, HCB.out, HOj.out⟩

theorem zeroC115 : (Tryd.zeroCells110 : Array Value) = (((List.replicate 16 (0 : Int)).map (Value.int .i64) ++ (List.replicate 288 (0 : Int)).map (Value.int .u16)).toArray) := by kernel_rfl
def codeOfPost (w : World) (l : List Int) (e : Ending) (w' : World) : Prop := (if mayS l = true then e = .returned (.tuple #[.pointer (some ⟨w.heap.size, 0, none⟩), .bool true]) ∧ CB w' w.heap.size l else e = .returned (.tuple #[.pointer none, .bool false])) ∧ Below w.heap.size w w'

set_option maxHeartbeats 2000000 in
theorem pcodeOf (A : Option Addr) (n c B : Nat) (l : List Int) (w : World) (hl : Nums w B A n c l) (hB : B ≤ w.heap.size) (hn : n ≤ 288) (h0 : ∀ i, 0 ≤ l.getD i 0) (h15 : ∀ i, l.getD i 0 ≤ 15) :
    Calls Tryd.prog 60 #[.slice A n c] w (codeOfPost w l) := by
  have HL := Lib.hid (fun W (hW : Below w.heap.size w W) => hl.below hW hB)
  have HS := Lib.hid (sumN_bd l h15)
  have HM := Lib.hid (manyN_bd l)
  have H0 := Lib.hid h0
  have H15 := Lib.hid h15
  have HLEN := Lib.hid hl.len
  have hms : mayS l = (decide (sumN l n ≤ 32768) && (sumN l n == 32768 || decide (manyN l n ≤ 1))) := by unfold mayS; rw [hl.len]
  have HMS := Lib.hid hms
  have HPS := Lib.hid (fun W (hW : Below w.heap.size w W) (hsz : w.heap.size < W.heap.size) (hR : RawC W w.heap.size (manyK l l.length) (List.replicate 288 0)) => psort A n c B w.heap.size l W (hl.below hW hB) (by omega) hn h0 h15 hR hB)
  obtain ⟨W0, hW0⟩ : ∃ W0, w.alloc (.cells Tryd.zeroCells110 110) = W0 := ⟨_, rfl⟩
  have HW0 := Lib.hid hW0
  have hr0 : RawC W0 w.heap.size (manyK l 0) (List.replicate 288 0) := by
    rw [← hW0, zeroC115, manyK_zero]; exact heap_alloc_new w _
  have hb0 : Below w.heap.size w W0 := by rw [← hW0]; exact (Below.refl _ _).alloc (Nat.le_refl _) _
  have hs0 : w.heap.size < W0.heap.size := by rw [← hW0]; simp
  have HR0 := Lib.hid hr0
  have HB0 := Lib.hid hb0
  have HS0 := Lib.hid hs0
  clear hl h0 h15 hms hW0 hr0 hb0 hs0
  go_enter Tryd.func60, Tryd.ntmps60
  go_upto_region 4 with fail
  rw [HW0.out]
  go_loopw [5, 6, 13] (fun cd rm i wr => ∃ k : Nat, k ≤ n ∧ i = .int .i64 k ∧ cd = .int .i64 (manyN l k) ∧ rm = .int .i64 (32768 - sumN l k) ∧ Hid (RawC wr w.heap.size (manyK l k) (List.replicate 288 0)) ∧ Hid (Below w.heap.size w wr) ∧ Hid (w.heap.size < wr.heap.size)) (fun _ _ i _ => n - (intOf i).toNat)
  case atStart => exact ⟨0, Nat.zero_le _, rfl, rfl, rfl, HR0, HB0, HS0⟩
  case round =>
    obtain ⟨k, hk, rfl, rfl, rfl, HR, HB, HZ⟩ := hrel
    have hsb := HS.out k
    have hmb := HM.out k
    by_cases hlt : k < n
    · obtain ⟨b, o, rfl, _, hc⟩ := (HL.out _ HB.out).cell (by omega)
      have ck := hc k hlt
      have hs1 : sumN l (k + 1) = sumN l k + wtZ (l.getD k 0) := rfl
      have hm1 : manyN l (k + 1) = manyN l k + (if 0 < l.getD k 0 then 1 else 0) := rfl
      have hx0 := H0.out k
      have hx15 := H15.out k
      by_cases hp : 0 < l.getD k 0
      · obtain ⟨L, hL⟩ : ∃ L : Nat, l.getD k 0 = L := ⟨(l.getD k 0).toNat, by omega⟩
        have hst := manyK_step l k L (by omega) (by omega) hL
        have hcl := HR.out.many L (by rw [manyK_len]; omega)
        rw [manyK_at l k L (by omega), if_neg (by omega)] at hcl
        have hcb := cntN_bd l (L : Int) k
        have hput := HR.out.putM L (by rw [manyK_len]; omega)
        have hf := HR.out.fr L
        rw [hL] at ck hs1 hm1 hx0 hx15 hp
        obtain ⟨C, hC⟩ : ∃ C, cntN l (L : Int) k = C := ⟨_, rfl⟩
        rw [hC] at hst hcl hcb
        obtain ⟨s, hs⟩ : ∃ s, sumN l k = s := ⟨_, rfl⟩
        obtain ⟨m, hm⟩ : ∃ m, manyN l k = m := ⟨_, rfl⟩
        obtain ⟨y, hy⟩ : ∃ y : Nat, 15 - (L : Int) = y := ⟨15 - L, by omega⟩
        rw [show wtZ (L : Int) = 2 ^ y by unfold wtZ; rw [if_pos hp, hy, Int.toNat_natCast]] at hs1
        rw [if_pos hp] at hm1
        rw [hs] at hs1 hsb ⊢
        rw [hm] at hm1 hmb ⊢
        have hp16 := pow_le16 y (by omega)
        have HS1 := Lib.hid hs1
        have HM1 := Lib.hid hm1
        have HST := Lib.hid hst
        have HPUT := Lib.hid hput
        have e1 : IntKind.i64.wrap (y : Int) = y := IntWalk.i64_in _ (by omega)
        have e2 : IntKind.i64.wrap ((2 : Int) ^ y) = 2 ^ y := IntWalk.i64_in _ (by omega)
        have e3 : IntKind.i64.wrap (C + 1) = C + 1 := IntWalk.i64_in _ (by omega)
        have e4 : IntKind.i64.wrap (m + 1) = m + 1 := IntWalk.i64_in _ (by omega)
        have e5 : IntKind.i64.wrap (32768 - s - 2 ^ y) = 32768 - s - 2 ^ y := IntWalk.i64_in _ (by omega)
        have hL16 : (L : Int) < 16 := by omega
        have hy64 : (y : Int) < 64 := by omega
        have HK : Hid (32768 - s - 2 ^ y = 32768 - (s + 2 ^ y)) := Lib.hid (by omega)
        clear hs1 hm1 hst hput hC hs hm hc hcb hx0 hx15 hL hsb hmb hp16
        go_wp2_with fail
        go_region
        all_goals
          go_wp2_with fail
          go_roundw
          case rel => exact ⟨k + 1, by omega, by go_num, by rw [HM1.out], by rw [HS1.out, HK.out], Lib.hid (by rw [HST.out]; exact HPUT.out _), Lib.hid ((below_drewN HB.out 1).setCell (Nat.le_refl _) _), Lib.hid (by simpa [World.setCell] using HZ.out)⟩
          case measure => simp [intOf]; omega
      · have hst := manyK_keep l k (by omega)
        rw [show wtZ (l.getD k 0) = 0 by unfold wtZ; rw [if_neg hp]] at hs1
        rw [if_neg hp] at hm1
        have HS1 := Lib.hid hs1
        have HM1 := Lib.hid hm1
        have HST := Lib.hid hst
        obtain ⟨x, hx⟩ : ∃ x, l.getD k 0 = x := ⟨_, rfl⟩
        rw [hx] at ck hp
        clear hs1 hm1 hst hc hx0 hx15 hx hsb hmb
        go_wp2_with fail
        go_roundw
        case rel => exact ⟨k + 1, by omega, by go_num, by rw [HM1.out, Int.add_zero], by rw [HS1.out, Int.add_zero], Lib.hid (by rw [HST.out]; exact HR.out), HB, HZ⟩
        case measure => simp [intOf]; omega
    · obtain rfl : k = n := by omega
      have hms := HMS.out
      have hps := HPS.out _ HB.out HZ.out (by have := HR.out; rw [← HLEN.out] at this; exact this)
      have HPS1 := Lib.hid hps
      obtain ⟨s, hs⟩ : ∃ s, sumN l k = s := ⟨_, rfl⟩
      obtain ⟨m, hm⟩ : ∃ m, manyN l k = m := ⟨_, rfl⟩
      rw [hs, hm] at hms
      rw [hs] at hsb ⊢
      rw [hm] at hmb ⊢
      clear hs hm hps
      unfold codeOfPost
      by_cases d1 : 32768 < s
      · have hf : mayS l = false := by rw [hms, decide_eq_false (by omega)]; rfl
        have HF := Lib.hid hf
        have e1 : decide (32768 - s < 0) = true := decide_eq_true (by omega)
        clear hms hf hsb hmb d1
        go_wp2_with fail
        go_ret2
        exact ⟨by rw [HF.out]; rfl, HB.out⟩
      · by_cases d2 : s = 32768
        · have hf : mayS l = true := by rw [hms, decide_eq_true (by omega), d2]; rfl
          have HF := Lib.hid hf
          subst d2
          clear hms hf hsb hmb d1
          go_wp2_with (go_at_call 69; refine HPS1.out.mono ?_; rintro e w2 ⟨rfl, hcb, hon⟩; have HCB := Lib.hid hcb; have HON := Lib.hid hon; clear hcb hon)
          go_ret2
          exact ⟨by rw [HF.out]; exact ⟨rfl, HCB.out⟩, HB.out.trans (HON.out.below (Nat.le_of_lt HZ.out))⟩
        · by_cases d3 : 1 < m
          · have hf : mayS l = false := by
              have e2 : (s == 32768) = false := beq_eq_false_iff_ne.2 d2
              rw [hms, e2, decide_eq_false (show ¬ m ≤ 1 by omega), Bool.false_or, Bool.and_false]
            have HF := Lib.hid hf
            have e0 : s < 32768 := by omega
            clear hms hf hsb hmb d1 d2
            go_wp2_with fail
            go_ret2
            exact ⟨by rw [HF.out]; rfl, HB.out⟩
          · have hf : mayS l = true := by
              rw [hms, decide_eq_true (show s ≤ 32768 by omega), decide_eq_true (show m ≤ 1 by omega), Bool.or_true]; rfl
            have HF := Lib.hid hf
            have e0 : s < 32768 := by omega
            have e3 : m ≤ 1 := by omega
            clear hms hf hsb hmb d1 d2 d3
            go_wp2_with (go_at_call 69; refine HPS1.out.mono ?_; rintro e w2 ⟨rfl, hcb, hon⟩; have HCB := Lib.hid hcb; have HON := Lib.hid hon; clear hcb hon)
            go_ret2
            exact ⟨by rw [HF.out]; exact ⟨rfl, HCB.out⟩, HB.out.trans (HON.out.below (Nat.le_of_lt HZ.out))⟩

set_option maxHeartbeats 2000000 in
theorem psym (kb kc n c p B h : Nat) (A : Option Addr) (zs l : List Int) (w : World) (hp : PB w kb kc A n c zs p) (hb : Byt w B A n c zs) (hB : B ≤ kb) (hC : B ≤ kc) (hn : n ≤ 1000000) (hc : CB w h l) (h1 : h ≠ kb) (h2 : h ≠ kc) (s : Int) (p' : Nat) (e' : Int) (hs : symR zs l (codesS l) 15 1 0 p = (s, p', e')) :
    Calls Tryd.prog 63 #[.pointer (some ⟨kb, 0, none⟩), .pointer (some ⟨h, 0, none⟩)] w fun r w' => r = .returned (.tuple #[.int .i64 s, .int .i64 e']) ∧ PB w' kb kc A n c zs p' ∧ Only2 kb kc w w' := by
  have H := Lib.hid hp
  have HLN := Lib.hid hb.len
  have HC := Lib.hid (fun W (hW : Only2 kb kc w W) => hc.same (hW.block h hc.lt h1 h2))
  have hkw : B ≤ w.heap.size := by have := hp.lt; omega
  have HBIT := Lib.hid (fun W q (hW : Only2 kb kc w W) (hq : PB W kb kc A n c zs q) => pbitC kb kc n c q B A zs W hq (hb.only2 hW hB hC hkw) hB hC hn)
  have HS : Hid (symR zs l (codesS l) (15 - 0) ((0 + 1 : Nat) : Int) 0 p = (s, p', e')) := Lib.hid hs
  have hll := hc.len
  have HCN := Lib.hid (fun L : Int => cntN_bd l L l.length)
  have HPK := Lib.hid (fun L : Nat => pasK_bd l L l.length)
  have HFC := Lib.hid (fun L => (firstC_bd l (by omega) L).1)
  have HLL := Lib.hid hll
  clear hp hb hc hs hll
  go_enter Tryd.func63, Tryd.ntmps63
  go_upto_region 4 with fail
  go_loopw [6, 7, 16] (fun a ps i wr => ∃ (J q : Nat) (v u : Int), J ≤ 15 ∧ i = .int .i64 J ∧ a = .int .i64 u ∧ ps = .int .i64 (pasK l l.length (J + 1)) ∧ Hid (0 ≤ u ∧ 2 * u = 2 * v - firstC l (J + 1) ∧ 0 ≤ v ∧ v < 2 ^ J) ∧ Hid (symR zs l (codesS l) (15 - J) ((J + 1 : Nat) : Int) v q = (s, p', e')) ∧ Hid (PB wr kb kc A n c zs q) ∧ Hid (Only2 kb kc w wr)) (fun _ _ i _ => 15 - (intOf i).toNat)
  case atStart => exact ⟨0, p, 0, 0, by omega, rfl, rfl, rfl, Lib.hid ⟨by omega, by simp [firstC], by omega, by decide⟩, HS, H, Lib.hid (Only2.refl _ _ _)⟩
  case round =>
    obtain ⟨J, q, v, u, hJ, rfl, rfl, rfl, HU, HR, HP, HO⟩ := hrel
    by_cases hlt : J < 15
    · obtain ⟨S, hS, hraw, hSi⟩ := (HC.out _ HO.out).raw
      have hm := hraw.many (1 + J) (by rw [manyK_len]; omega)
      rw [manyK_at l _ (1 + J) (by omega), if_neg (by omega), show ((1 + J : Nat) : Int) = ((J + 1 : Nat) : Int) by omega] at hm
      have hbit := HBIT.out _ q HO.out HP.out
      have hcb := HCN.out ((J + 1 : Nat) : Int)
      have hpk := HPK.out (J + 1)
      have hpk2 : pasK l l.length (J + 1 + 1) = pasK l l.length (J + 1) + cntN l ((J + 1 : Nat) : Int) l.length := by rw [pasK, if_neg (by omega)]
      have hfc2 : firstC l (J + 1 + 1) = 2 * (firstC l (J + 1) + cntN l ((J + 1 : Nat) : Int) l.length) := by rw [firstC, if_neg (by omega)]
      have hfc := HFC.out (J + 1)
      have hu := HU.out
      have hR := HR.out
      have h16 := pow_le16 J (by omega)
      rw [show 15 - J = (15 - (J + 1)) + 1 by omega, symR] at hR
      by_cases hq : q + 1 ≤ 8 * zs.length
      · rw [if_pos hq] at hR
        have hv1 : ptakeV zs q 1 = bitZ zs q := by
          unfold ptakeV; rw [if_pos ⟨by omega, by omega, by omega⟩]; show bitsZ zs q 1 = _; simp [bitsZ]
        have hp1 : ptakeP zs q 1 = q + 1 := by unfold ptakeP; rw [if_pos ⟨by omega, by omega, by omega⟩]; rfl
        rw [hv1, hp1] at hbit
        have hxb := bitZ_bd zs q
        have hin := hit_in l (J + 1) (2 * v + bitZ zs q) (by omega) (by omega)
        have hout := hit_out l (J + 1) (2 * v + bitZ zs q) (by omega) (by omega)
        obtain ⟨x, hx⟩ : ∃ x, bitZ zs q = x := ⟨_, rfl⟩
        rw [hx] at hbit hR hxb hin hout
        obtain ⟨N, hN⟩ : ∃ N, cntN l ((J + 1 : Nat) : Int) l.length = N := ⟨_, rfl⟩
        rw [hN] at hm hcb hin hout hpk2 hfc2
        obtain ⟨F, hF⟩ : ∃ F, firstC l (J + 1) = F := ⟨_, rfl⟩
        rw [hF] at hin hout hu hfc2 hfc
        have hbd : 0 ≤ u ∧ u ≤ 65536 := by omega
        have e1 : IntKind.i64.wrap (2 * u) = 2 * u := IntWalk.i64_in _ (by omega)
        have e2 : IntKind.i64.wrap (2 * u + x) = 2 * u + x := IntWalk.i64_in _ (by omega)
        have hx0 : ¬ x < 0 := by omega
        by_cases hhit : 2 * u + x < N
        · obtain ⟨i, hil, hli, hh, hpos⟩ := hin (by omega) (by omega)
          rw [hh] at hR
          have hpb := posZ_bd l i hil (by omega)
          have hSx := hSi i hil (by omega)
          have hl2 := HLL.out
          obtain ⟨P, hP⟩ : ∃ P : Nat, posZ l i = P := ⟨(posZ l i).toNat, by omega⟩
          rw [hP] at hpos hpb hSx
          rw [Int.toNat_natCast] at hSx
          have hsy := hraw.symb P (by rw [hS]; omega)
          rw [manyK_len, hSx] at hsy
          have hpe : pasK l l.length (J + 1) + (2 * u + x) = (P : Int) := by omega
          have e3 : IntKind.i64.wrap (pasK l l.length (J + 1) + (2 * u + x)) = (P : Int) := by rw [hpe]; exact IntWalk.i64_in _ (by omega)
          have e4 : IntKind.i64.wrap (i : Int) = i := IntWalk.i64_in _ (by omega)
          have hP288 : (P : Int) < 288 := by omega
          have HX := Lib.hid hR
          have HBT := Lib.hid hbit
          have HSY := Lib.hid hsy
          have hraw2 := Lib.hid hraw
          obtain ⟨ps, hps⟩ : ∃ ps, pasK l l.length (J + 1) = ps := ⟨_, rfl⟩
          rw [hps] at e3 ⊢
          clear hR hbit hin hout hx hN hF hu hxb hpk2 hfc2 hfc hcb hpk h16 hpos hP hpb hSx hSi hps hpe hbd hsy hli hil hh hraw
          go_wp2_with (go_at_call 26; refine HBT.out.mono ?_; rintro r w2 ⟨rfl, hb2, ho2⟩; have HB2 := Lib.hid hb2; have HO2 := Lib.hid (HO.out.trans ho2); have hsy : w2.cell? ⟨h, 16 + P, none⟩ = some (.int .u16 i) := (World.cell?_of_block (ho2.block h hraw2.out.lt h1 h2)).trans HSY.out; clear hb2 ho2)
          go_ret2
          obtain ⟨rfl, h3⟩ := Prod.mk.inj HX.out
          obtain ⟨rfl, rfl⟩ := Prod.mk.inj h3
          exact ⟨rfl, HB2.out, HO2.out⟩
        · rw [hout (by omega)] at hR
          have HX : Hid (symR zs l (codesS l) (15 - (J + 1)) ((J + 1 + 1 : Nat) : Int) (2 * v + x) (q + 1) = (s, p', e')) := Lib.hid (by rw [← hR, show ((J + 1 + 1 : Nat) : Int) = ((J + 1 : Nat) : Int) + 1 by omega])
          have HBT := Lib.hid hbit
          have HU2 : Hid (0 ≤ 2 * u + x - N ∧ 2 * (2 * u + x - N) = 2 * (2 * v + x) - firstC l (J + 1 + 1) ∧ 0 ≤ 2 * v + x ∧ 2 * v + x < 2 ^ (J + 1)) := Lib.hid (by rw [hfc2, Int.pow_succ]; omega)
          have HPK2 := Lib.hid hpk2
          have e3 : IntKind.i64.wrap (2 * u + x - N) = 2 * u + x - N := IntWalk.i64_in _ (by omega)
          have e4 : IntKind.i64.wrap (pasK l l.length (J + 1) + N) = pasK l l.length (J + 1) + N := IntWalk.i64_in _ (by have := HLL.out; omega)
          obtain ⟨ps, hps⟩ : ∃ ps, pasK l l.length (J + 1) = ps := ⟨_, rfl⟩
          rw [hps] at e4 HPK2 ⊢
          have hge : N ≤ 2 * u + x := by omega
          clear hR hbit hin hout hx hN hF hu hxb hpk2 hfc2 hfc hcb hpk h16 hSi hps hbd hhit hraw
          go_wp2_with (go_at_call 26; refine HBT.out.mono ?_; rintro r w2 ⟨rfl, hb2, ho2⟩; have HB2 := Lib.hid hb2; have HO2 := Lib.hid (HO.out.trans ho2); clear hb2 ho2)
          go_roundw
          case rel => exact ⟨J + 1, q + 1, 2 * v + x, _, by omega, by go_num, rfl, by rw [HPK2.out], HU2, HX, HB2, HO2⟩
          case measure => simp [intOf]; omega
      · rw [if_neg hq] at hR
        have hv1 : ptakeV zs q 1 = -1 := by unfold ptakeV; rw [if_neg (by omega)]
        have hp1 : ptakeP zs q 1 = q := by unfold ptakeP; rw [if_neg (by omega)]
        rw [hv1, hp1] at hbit
        have HBT := Lib.hid hbit
        have HX := Lib.hid hR
        clear hR hbit hu hpk2 hfc2 hfc hcb hpk h16 hSi hraw
        go_wp2_with (go_at_call 26; refine HBT.out.mono ?_; rintro r w2 ⟨rfl, hb2, ho2⟩; have HB2 := Lib.hid hb2; have HO2 := Lib.hid (HO.out.trans ho2); clear hb2 ho2)
        go_ret2
        obtain ⟨rfl, h3⟩ := Prod.mk.inj HX.out
        obtain ⟨rfl, rfl⟩ := Prod.mk.inj h3
        exact ⟨rfl, HB2.out, HO2.out⟩
    · obtain rfl : J = 15 := by omega
      have HX : Hid ((0, q, 4) = (s, p', e')) := HR
      go_wp2
      go_ret2
      obtain ⟨rfl, h3⟩ := Prod.mk.inj HX.out
      obtain ⟨rfl, rfl⟩ := Prod.mk.inj h3
      exact ⟨rfl, HP.out, HO.out⟩
end Go.Proofs.YtebbakfjjjamkaaDoor
