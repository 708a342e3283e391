/- The project's own reader of blocks (package inflate): row. -/
import Derived.Test.YtebbakfjjjamkaaDoorPTold
import Derived.Test.YtebbakfjjjamkaaDoorRef4DynC
namespace Go.Proofs.YtebbakfjjjamkaaDoor
open Go.RowKit
set_option linter.unusedVariables false
set_option maxRecDepth 100000

/-- One number more behind a row of one's own, of type []int. -/
theorem MineI.append2 {w : World} {v : Value} {p : Nat} {zs : List Int} (h : MineI w v p zs) (z : Int) (ty : TypeId) (hp : p + 1 ≤ 1000000) :
    ∃ v' w', (Builtin.append_ #[58, 58] ty #[v, .slice (some ⟨w.heap.size, 0, none⟩) 1 1]).run Tryd.prog (w.alloc (.cells #[.int .i64 z] 3)) = .ok v' w' ∧ MineI w' v' (p + 1) (zs ++ [z]) ∧
      (∀ k, k < w.heap.size → v.ownBlock ≠ some k → w'.heap[k]? = w.heap[k]?) ∧ w'.os = w.os ∧ w'.tape = w.tape ∧ w'.output = w.output ∧ w.heap.size ≤ w'.heap.size ∧ (∀ b, v'.ownBlock = some b → v.ownBlock = some b ∨ w.heap.size ≤ b) := by
  obtain ⟨i0, hi, hz0, hz1, hz2⟩ := info_parts infoInt
  have hl : MineI (w.alloc (.cells #[.int .i64 z] 3)) v p zs := h.same fun b _ hlt => ((Below.refl w.heap.size w).alloc (Nat.le_refl _) (.cells #[.int .i64 z] 3)).block b hlt
  obtain ⟨v', w', hr, hown, hgr, _, hat⟩ := run_append_own_at (P := Tryd.prog) (w.alloc (.cells #[.int .i64 z] 3)) 0 58 ty 3 i0 _ 1 8 Tryd.underlying58 hi hz0 hz1 hz2 rfl (by omega) v p _ hl.own ⟨w.heap.size, 0, none⟩ 1 1 [.int .i64 z]
    (by simp) (fun j u hj => by
      have hj0 : j = 0 := by
        have := (List.getElem?_eq_some_iff.1 hj).1
        simp at this; exact this
      subst hj0
      have hc : (w.alloc (.cells #[.int .i64 z] 3)).cell? ⟨w.heap.size, 0, none⟩ = some (.int .i64 z) := by rw [cell_of_row _ w.heap.size 0 #[.int .i64 z] 3 (0, 0) (heap_alloc_new w _)]; rfl
      rw [show (⟨w.heap.size, 0, none⟩ : Addr).add 0 = ⟨w.heap.size, 0 + 0, none⟩ from rfl, Nat.add_zero, hc, ← hj]
      simp) (fun u hu => by simp at hu; subst hu; rfl) (by simp only [maxLen]; omega) (by omega) (Nat.zero_le _)
  have hsz : (w.alloc (.cells #[.int .i64 z] 3)).heap.size = w.heap.size + 1 := by simp
  refine ⟨v', w', hr, ⟨by simpa using hown⟩, fun k hk hne => ?_, hgr.os, hgr.tape, hgr.output, Nat.le_trans (by simp) hgr.size, fun b hb => ?_⟩
  · rw [hgr.block k (by omega) (fun e => hne e.symm)]
    exact ((Below.refl w.heap.size w).alloc (Nat.le_refl _) (.cells #[.int .i64 z] 3)).block k hk
  · rcases hat with h1 | h1
    · exact .inl (by rw [← h1, hb])
    · rw [hb, hsz] at h1; injection h1 with h1; exact .inr (by omega)
theorem own0 {w : World} {base n size : Nat} {e : TypeId} {v : Value} {xs : List Value} (h : w.ownsRow base e size v n xs) : w.ownsRow 0 e size v n xs := by
  refine ⟨h.1, ?_⟩
  rcases h.2 with h1 | ⟨g, cap, cur, hv, hb, r⟩
  · exact .inl h1
  · exact .inr ⟨g, cap, cur, hv, Nat.zero_le _, r⟩
/-- 'make([]int, 0, n)'. -/
theorem make_row (n : Nat) (w : World) (hn : n ≤ 1000000) : ∃ W1, (Instr.makeSlice 58 (.int .i64 0) (.int .i64 (n : Int))).run Tryd.prog w = .ok (.slice (some ⟨w.heap.size, 0, none⟩) 0 n) W1 ∧ MineI W1 (.slice (some ⟨w.heap.size, 0, none⟩) 0 n) 0 [] ∧ Below w.heap.size w W1 := by
  obtain ⟨i0, hi, hz0, hz1, hz2⟩ := info_parts infoInt
  obtain ⟨w', hr, ho, hg⟩ := run_make_own (P := Tryd.prog) (w := w) w.heap.size 58 3 i0 _ 1 Tryd.underlying58 hi hz0 hz1 .i64 .i64 n (by rw [hz2]; omega) (by simp only [maxLen]; omega) (Nat.le_refl _)
  exact ⟨w', hr, ⟨by simpa using own0 ho⟩, ⟨hg.os, hg.tape, hg.output, hg.size, fun k hk => hg.block k hk (by simp)⟩⟩
theorem PB.keep2 {w w' : World} {kb kc n c p : Nat} {A : Option Addr} {zs : List Int} (h : PB w kb kc A n c zs p) (hb : ∀ k, k < w.heap.size → k = kb ∨ k = kc → w'.heap[k]? = w.heap[k]?) : PB w' kb kc A n c zs p :=
  h.same (hb kb h.lt (.inl rfl)) (hb kc h.cur.lt (.inr rfl))

set_option maxHeartbeats 2000000 in
theorem prow (kr kb kc n c p B most hc tot : Nat) (A : Option Addr) (v fx : Value) (out zs cd : List Int) (ts : Nat → Prop) (w : World) (h : RS w kr kb kc ts A n c zs p v out most fx) (hb : Byt w B A n c zs) (hB : ∀ i, i < B → ts i) (hn : n ≤ 1000000) (hcb : CB w hc cd) (h1 : hc ≠ kb) (h2 : hc ≠ kc) (hcd : cd.length = 19) (htot : tot ≤ 700) (hp : p ≤ 8 * n)
    (p' : Nat) (e' : Int) (l' : List Int) (hs : rowsR zs cd (codesS cd) tot (tot + 1) p 0 [] = (p', e', l')) :
    Calls Tryd.prog 67 #[.pointer (some ⟨kr, 0, none⟩), .pointer (some ⟨hc, 0, none⟩), .int .i64 tot] w fun r w' => PB w' kb kc A n c zs p' ∧ Only2 kb kc w w' ∧
      ((e' = 0 ∧ ∃ v', r = .returned (.tuple #[v', .int .i64 0]) ∧ MineI w' v' l'.length l' ∧ (∀ b, v'.ownBlock = some b → w.heap.size ≤ b) ∧ l'.length = tot ∧ Lens l') ∨ (¬ e' = 0 ∧ r = .returned (.tuple #[.slice none 0 0, .int .i64 e']))) := by
  have H := Lib.hid h
  have hbl := h.ble hB
  have hkb := h.ltb
  have hkc := h.ltc
  have HLEN := Lib.hid hb.len
  have HBY := Lib.hid (fun W (hW : Only2 kb kc w W) => hb.only2 hW hbl.1 hbl.2.1 hbl.2.2.2)
  have HCB := Lib.hid (fun W (hW : Only2 kb kc w W) => hcb.same (hW.block hc hcb.lt h1 h2))
  obtain ⟨W1, hmk, hmi, hbe⟩ := make_row tot w (by omega)
  have HPC := Lib.hid (fun W q (hW : Only2 kb kc w W) (hq : PB W kb kc A n c zs q) Al nl cl lv (hl : Nums W W.heap.size Al nl cl lv) hlk (hnl : nl ≤ 1000) => ppiece kr kb kc n c q B most hc nl cl A Al v fx out zs lv cd ts W (H.out.read hW hq) (HBY.out W hW) hB hn (HCB.out W hW) h1 h2 hl hlk hnl)
  have HMI := Lib.hid hmi
  have HO1 : Hid (Only2 kb kc w W1) := Lib.hid (Only2.of_below hbe kb kc)
  have HP1 : Hid (PB W1 kb kc A n c zs p) := Lib.hid (h.pb.below hbe hkb hkc)
  have HS := Lib.hid hs
  have HP := Lib.hid hp
  have HCD := Lib.hid hcd
  clear h hb hcb hmi hbe hs hp hbl h1 h2 hcd
  go_enter Tryd.func67, Tryd.ntmps67
  go_wp2
  go_loopg [8] (tot + 1) (fun g rv wr => ∃ (q : Nat) (lv : List Int), Hid (rowsR zs cd (codesS cd) tot g q 0 lv = (p', e', l')) ∧ Hid (MineI wr rv lv.length lv ∧ (∀ b, rv.ownBlock = some b → w.heap.size ≤ b)) ∧ Hid (lv.length ≤ tot ∧ tot < lv.length + g ∧ q ≤ 8 * n ∧ Lens lv) ∧ Hid (PB wr kb kc A n c zs q) ∧ Hid (Only2 kb kc w wr))
  case atStart => exact ⟨p, [], HS, Lib.hid ⟨HMI.out, fun b hb => by injection hb with hb; exact Nat.le_of_eq hb⟩, Lib.hid ⟨Nat.zero_le _, by simp, HP.out, Lens.nil⟩, HP1, HO1⟩
  case round =>
    obtain ⟨q, lv, HR, HM, HQ, HB, HO⟩ := hrel
    obtain ⟨hq1, hq2, hq3, hq4⟩ := HQ.out
    obtain ⟨Al, cl, hv, hnums, _⟩ := HM.out.1.nums
    subst hv
    have hR := HR.out
    obtain ⟨g, rfl⟩ : ∃ g, gk = g + 1 := ⟨gk - 1, by omega⟩
    by_cases hlt : lv.length < tot
    · rw [rowsR, if_pos ⟨rfl, hlt⟩] at hR
      dsimp only at hR
      have hpc := HPC.out wr q HO.out HB.out Al lv.length cl lv hnums (fun b o e => by
        subst e
        have := HM.out.2 b rfl
        omega) (by omega)
      have hsl := symR_lt zs cd (codesS cd) 15 1 0 q
      have hsv := symS_v zs cd (codesS cd) q 0
      have hsp := symS_p zs cd (codesS cd) q 0 (by rw [HLEN.out]; exact hq3)
      have hrb := repS_bd zs (symS zs cd (codesS cd) q 0).1 lv (symS zs cd (codesS cd) q 0).2.1 (symS zs cd (codesS cd) q 0).2.2 hsv (fun he => by
        have e1 : symS zs cd (codesS cd) q 0 = symR zs cd (codesS cd) 15 1 0 q := by unfold symS; rw [if_pos rfl]
        rw [e1] at he ⊢
        obtain ⟨s, p2, e, hh⟩ : ∃ s p2 e, symR zs cd (codesS cd) 15 1 0 q = (s, p2, e) := ⟨_, _, _, rfl⟩
        rw [hh] at he ⊢
        dsimp only at he ⊢
        subst he
        have := hsl s p2 hh
        rw [HCD.out] at this
        exact this) hsp.1 hq4
      obtain ⟨rr, hrr⟩ : ∃ rr, repS zs (symS zs cd (codesS cd) q 0).1 lv (symS zs cd (codesS cd) q 0).2.1 (symS zs cd (codesS cd) q 0).2.2 = rr := ⟨_, rfl⟩
      rw [hrr] at hR hpc hrb
      rw [HLEN.out] at hrb
      have HPCC := Lib.hid hpc
      have HRB := Lib.hid hrb
      have HR1 := Lib.hid hR
      clear hR hpc hrb hsl hsv hsp hrr
      by_cases he : ¬ rr.2.2.2 = 0
      · have hov : overS tot lv rr = rr.2.2.2 := by unfold overS; rw [if_neg (fun h => he h.1)]
        have hX := HR1.out
        rw [hov, rowsR_stop _ _ _ _ _ _ _ _ (fun h => he h.1)] at hX
        have HX := Lib.hid hX
        have HE := Lib.hid he
        obtain ⟨re, hre⟩ : ∃ re, rr.2.2.2 = re := ⟨_, rfl⟩
        have hz : (re == 0) = false := beq_eq_false_iff_ne.2 (hre ▸ he)
        have HRE := Lib.hid hre
        clear hov hX he hre
        go_wp2_with (go_at_call 75; refine HPCC.out.mono ?_; rintro r w2 ⟨x, y, e, rfl, ⟨he, hxy⟩, hb2, ho2⟩; rw [HRE.out] at he; subst he; have HB2 := Lib.hid hb2; have HO2 := Lib.hid (HO.out.trans ho2); clear hxy hb2 ho2)
        go_ret2
        obtain ⟨rfl, h3⟩ := Prod.mk.inj HX.out
        obtain ⟨rfl, rfl⟩ := Prod.mk.inj h3
        exact ⟨HB2.out, HO2.out, .inr ⟨HE.out, by rw [HRE.out]; rfl⟩⟩
      have he := Decidable.not_not.1 he
      have hrb := HRB.out
      obtain ⟨Y, hY⟩ : ∃ Y : Nat, rr.2.1 = Y := ⟨rr.2.1.toNat, by omega⟩
      by_cases hover : (tot : Int) < lv.length + rr.2.1
      · have hov : overS tot lv rr = 4 := by unfold overS; rw [if_pos ⟨he, hover⟩]
        have hX := HR1.out
        rw [hov, rowsR_stop _ _ _ _ _ _ _ _ (fun h => absurd h.1 (by decide))] at hX
        have HX := Lib.hid hX
        have HE := Lib.hid he
        have HY := Lib.hid hY
        have hyt : ¬ (Y : Int) ≤ (tot : Int) - lv.length := by omega
        have hlt2 : (lv.length : Int) < tot := by omega
        clear hov hX he hover hrb hY
        go_wp2_with (go_at_call 75; refine HPCC.out.mono ?_; rintro r w2 ⟨x, y, e, rfl, ⟨he, hxy⟩, hb2, ho2⟩; rw [HE.out] at he; subst he; obtain ⟨hx1, hy1⟩ := hxy rfl; rw [HY.out] at hy1; subst hy1; have HB2 := Lib.hid hb2; have HO2 := Lib.hid (HO.out.trans ho2); clear hx1 hxy hb2 ho2)
        go_ret2
        obtain ⟨rfl, h3⟩ := Prod.mk.inj HX.out
        obtain ⟨rfl, rfl⟩ := Prod.mk.inj h3
        exact ⟨HB2.out, HO2.out, .inr ⟨by decide, rfl⟩⟩
      have hov : overS tot lv rr = 0 := by unfold overS; rw [if_neg (fun h => hover h.2), he]
      have hgr : growS tot lv rr = lv ++ List.replicate Y rr.1 := by unfold growS; rw [if_pos hov, hY, Int.toNat_natCast]
      have hX := HR1.out
      rw [hov, hgr] at hX
      obtain ⟨x0, hx0⟩ : ∃ x0, rr.1 = x0 := ⟨_, rfl⟩
      rw [hx0] at hX
      have hxb := hrb.2.2.2.2 he
      rw [hx0] at hxb
      have HX := Lib.hid hX
      have HE := Lib.hid he
      have HY := Lib.hid hY
      have HX0 := Lib.hid hx0
      have HLL : Hid (lv.length + Y ≤ tot ∧ tot < lv.length + Y + g ∧ Lens (lv ++ List.replicate Y x0)) := Lib.hid ⟨by omega, by omega, hq4.grow Y x0 hxb⟩
      have HQ3 : Hid (rr.2.2.1 ≤ 8 * n) := Lib.hid hrb.1
      have hyt : (Y : Int) ≤ (tot : Int) - lv.length := by omega
      have hlt2 : (lv.length : Int) < tot := by omega
      have hYb : (Y : Int) ≤ 700 := by omega
      clear hov hgr hX he hover hrb hY hx0 hxb
      go_upto_region 9 with (go_at_call 75; refine HPCC.out.mono ?_; rintro r w2 ⟨x, y, e, rfl, ⟨he, hxy⟩, hb2, ho2⟩; rw [HE.out] at he; subst he; obtain ⟨hx1, hy1⟩ := hxy rfl; rw [HY.out] at hy1; subst hy1; rw [HX0.out] at hx1; subst hx1; clear hxy; have HB2 := Lib.hid hb2; have HO2 := Lib.hid (HO.out.trans ho2); have HM2 : Hid (MineI w2 (.slice Al lv.length cl) lv.length lv) := Lib.hid (HM.out.1.same fun b hb hlt => ho2.block b hlt (by have := HM.out.2 b hb; omega) (by have := HM.out.2 b hb; omega)); clear hb2 ho2)
      go_loopw [8, 36] (fun rv iv ws => ∃ (j : Nat) (u : Value), j ≤ Y ∧ rv = u ∧ iv = .int .i64 j ∧ Hid (MineI ws u (lv.length + j) (lv ++ List.replicate j x) ∧ (∀ b, u.ownBlock = some b → w.heap.size ≤ b)) ∧ Hid (PB ws kb kc A n c zs rr.2.2.1) ∧ Hid (Only2 kb kc w ws)) (fun _ iv _ => Y - (intOf iv).toNat)
      case atStart => exact ⟨0, _, Nat.zero_le _, rfl, rfl, Lib.hid ⟨by simpa using HM2.out, HM.out.2⟩, HB2, HO2⟩
      case round =>
        obtain ⟨j, u, hj, hu, rfl, HMj, HBj, HOj⟩ := hrel
        obtain rfl := hu.symm
        by_cases hlt3 : j < Y
        · have HAP := Lib.hid (HMj.out.1.append2 x 58 (by omega))
          have hkb2 : kb < wr.heap.size := HBj.out.lt
          have hkc2 : kc < wr.heap.size := HBj.out.cur.lt
          have HKK := Lib.hid (And.intro hkb2 hkc2)
          have hjY : (j : Int) < Y := by omega
          clear hkb2 hkc2 hlt3
          go_wp2_with (at_builtin; obtain ⟨v6, w6, hrun, hmi6, hbl6, hos6, htp6, hou6, hsz6, hwn6⟩ := HAP.out; refine Lib.wpList_append_run_sl _ rfl (.tmp 38) (.tmp 40) 58 rfl _ _ rfl rfl hrun ?_; clear hrun; have HX6 := Lib.hid (And.intro hmi6 (And.intro hbl6 (And.intro hos6 (And.intro htp6 (And.intro hou6 (And.intro hsz6 hwn6)))))); clear hbl6 hmi6 hos6 htp6 hou6 hsz6 hwn6)
          obtain ⟨hmi6, hbl6, hos6, htp6, hou6, hsz6, hwn6⟩ := HX6.out
          have HM7 : Hid (MineI w6 v6 (lv.length + (j + 1)) (lv ++ List.replicate (j + 1) x) ∧ (∀ b, v6.ownBlock = some b → w.heap.size ≤ b)) := Lib.hid ⟨by
            have e : lv ++ List.replicate (j + 1) x = lv ++ List.replicate j x ++ [x] := by rw [List.replicate_succ', List.append_assoc]
            rw [e, ← Nat.add_assoc]; exact hmi6, fun b hb => by
            rcases hwn6 b hb with h1 | h1
            · exact HMj.out.2 b h1
            · exact Nat.le_trans HOj.out.size h1⟩
          have HB7 : Hid (PB w6 kb kc A n c zs rr.2.2.1) := Lib.hid (HBj.out.keep2 fun k hk hor => hbl6 k hk (fun e => by have := HMj.out.2 k e; omega))
          have HO7 : Hid (Only2 kb kc w w6) := Lib.hid ⟨hos6.trans HOj.out.os, htp6.trans HOj.out.tape, hou6.trans HOj.out.output, Nat.le_trans HOj.out.size hsz6, fun k hk h1 h2 => (hbl6 k (Nat.lt_of_lt_of_le hk HOj.out.size) (fun e => by have := HMj.out.2 k e; omega)).trans (HOj.out.block k hk h1 h2)⟩
          clear hmi6 hbl6 hos6 htp6 hou6 hsz6 hwn6
          go_roundw
          case rel => exact ⟨j + 1, v6, by omega, rfl, by go_num, HM7, HB7, HO7⟩
          case measure => simp [intOf]; omega
        · obtain rfl : j = Y := by omega
          have hlen2 : (lv ++ List.replicate j x).length = lv.length + j := by simp
          have HM8 : Hid (MineI wr u (lv ++ List.replicate j x).length (lv ++ List.replicate j x) ∧ (∀ b, u.ownBlock = some b → w.heap.size ≤ b)) := Lib.hid (by rw [hlen2]; exact HMj.out)
          have hll := HLL.out
          have HQ8 : Hid ((lv ++ List.replicate j x).length ≤ tot ∧ tot < (lv ++ List.replicate j x).length + g ∧ rr.2.2.1 ≤ 8 * n ∧ Lens (lv ++ List.replicate j x)) := Lib.hid ⟨by rw [hlen2]; omega, by rw [hlen2]; omega, HQ3.out, hll.2.2⟩
          clear hlen2 hll
          go_wp2
          go_roundg g
          case measure => omega
          case rel => exact ⟨rr.2.2.1, _, HX, HM8, HQ8, HBj, HOj⟩
    · have hX := HR.out
      rw [rowsR_stop _ _ _ _ _ _ _ _ (fun h => hlt h.2)] at hX
      have HX := Lib.hid hX
      have hge : ¬ (lv.length : Int) < tot := by omega
      clear hX hR
      go_wp2
      go_ret2
      obtain ⟨rfl, h3⟩ := Prod.mk.inj HX.out
      obtain ⟨rfl, rfl⟩ := Prod.mk.inj h3
      exact ⟨HB.out, HO.out, .inl ⟨rfl, _, rfl, HM.out.1, HM.out.2, by omega, hq4⟩⟩
end Go.Proofs.YtebbakfjjjamkaaDoor
