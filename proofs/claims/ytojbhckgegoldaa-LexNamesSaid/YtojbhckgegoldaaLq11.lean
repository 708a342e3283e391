/- Chapter 11, the project's own: New, Token. -/
import Derived.Test.YtojbhckgegoldaaLk11
namespace Go.Proofs.Ytojbhckgegoldaa
open Go.RowKit
set_option linter.unusedVariables false
set_option maxRecDepth 100000

theorem plnewC (A : Option Addr) (n c : Nat) (w : World) : Calls Try.prog 11 #[.slice A n c] w fun e w' => e = .returned (.pointer (some ⟨w.heap.size + 1, 0, none⟩)) ∧ LX w' (w.heap.size + 1) w.heap.size A n c 0 ∧ w'.heap.size = w.heap.size + 2 ∧ Below w.heap.size w w' := by
  have HN := Lib.hid (new_any A n c w)
  go_enter Try.func11, Try.ntmps11
  go_wp2_with (go_at_call 31; refine HN.out.mono ?_; (rintro e w2 ⟨rfl, rfl⟩))
  go_ret
  have h1 := (Below.refl w.heap.size w).alloc (Nat.le_refl _) (.cells #[.slice A n c, .int .i64 (0 : Nat)] 61)
  have hs : (w.alloc (.cells #[.slice A n c, .int .i64 (0 : Nat)] 61)).heap.size = w.heap.size + 1 := by simp
  have h2 := (Below.refl (w.heap.size + 1) (w.alloc (.cells #[.slice A n c, .int .i64 (0 : Nat)] 61))).alloc (by rw [hs]; exact Nat.le_refl _) (.cells #[.pointer (some ⟨w.heap.size, 0, none⟩)] 43)
  refine ⟨by simp, ⟨?_, (Cur.new w).below h2 (by omega), by omega, by omega⟩, by simp, h1.trans (h2.mono (by omega))⟩
  have h3 := heap_alloc_new (w.alloc (.cells #[.slice A n c, .int .i64 (0 : Nat)] 61)) (.cells #[.pointer (some ⟨w.heap.size, 0, none⟩)] 43)
  rw [hs] at h3
  exact h3

/-- What Token leaves. -/
def TokP (h g : Nat) (A : Option Addr) (n c : Nat) (t : Tk) (at_ : Nat) (w : World) (r : Ending) (w' : World) : Prop :=
  ∃ (A' : Option Addr) (m c' : Nat), r = .returned (.tuple #[tkA t.k at_ t.v A' m c', .int .i64 t.e]) ∧ LX w' h g A n c t.q ∧ Only g w w' ∧ Byt w' w'.heap.size A' m c' t.b ∧ From w.heap.size A' m
set_option maxHeartbeats 4000000 in
theorem ptokC (h g n c p B : Nat) (A : Option Addr) (zs : List Int) (w : World) (hx : LX w h g A n c p) (hb : Byt w B A n c zs) (hB : B ≤ g) (hn : n ≤ 900000) :
    Calls Try.prog 12 #[.pointer (some ⟨h, 0, none⟩)] w (TokP h g A n c (tokT zs p) (blkP zs p) w) := by
  have hlen := hb.len
  have hle := (blkP_le zs p (by rw [hb.len]; exact hx.pl)).2
  rw [hlen] at hle
  have hbx := Bx.new w 28 (.int .i64 0) (.int .i64 0) (.int .i64 0) (.slice none 0 0)
  have hb0 : Below w.heap.size w (w.alloc (.cells (tkC 0 0 0 none 0 0) 28)) := (Below.refl w.heap.size w).alloc (Nat.le_refl _) _
  obtain ⟨W0, hW0⟩ : ∃ W0, w.alloc (.cells (tkC 0 0 0 none 0 0) 28) = W0 := ⟨_, rfl⟩
  have hs0 : W0.heap.size = w.heap.size + 1 := by rw [← hW0]; simp
  rw [show w.alloc (.cells #[.int .i64 0, .int .i64 0, .int .i64 0, .slice none 0 0] 28) = W0 from hW0] at hbx
  rw [hW0] at hb0
  have HW0 := Lib.hid (show w.alloc (.cells #[.int .i64 0, .int .i64 0, .int .i64 0, .slice none 0 0] 28) = W0 from hW0)
  have HBX := Lib.hid hbx
  have HB0 := Lib.hid hb0
  have HS0 := Lib.hid hs0
  have HO0 : Hid (Only g w W0) := Lib.hid (Only.of_below hb0 g)
  have hltg := hx.cu.lt
  have hlth := hx.lt
  have HX0 := Lib.hid (hx.below hb0 hlth hltg)
  have HBY0 := Lib.hid (hb.below hb0 (by omega))
  have HLT := Lib.hid (show g < w.heap.size ∧ h < w.heap.size from ⟨hltg, hlth⟩)
  clear hbx hb0 hW0 hs0 hltg hlth
  have HGW := Lib.hid (show g ≤ W0.heap.size by have := HS0.out; have := HLT.out; omega)
  have HB1 := Lib.hid (fun W (ho : Only g W0 W) => HBY0.out.only ho hB HGW.out)
  have HBLK := Lib.hid (pblankC h g n c p B A zs W0 HX0.out HBY0.out hB (by omega))
  have HTOK := Lib.hid (fun W (ho : Only g W0 W) q (hW : LX W h g A n c q) => ptokenC h g n c q B A zs W hW (HB1.out W ho) hB hn)
  obtain ⟨bp, hbp⟩ : ∃ bp, blkP zs p = bp := ⟨_, rfl⟩
  unfold tokT
  rw [hbp] at hle HBLK ⊢
  have HPO := Lib.hid (fun W (hW : LX W h g A n c bp) => pos_any g n c bp A W hW.cu)
  have HSK := Lib.hid (fun W q (hW : LX W h g A n c q) => seek_in g n c q bp A W hW.cu hle (by omega))
  obtain ⟨⟨e, k, v, b, q⟩, hT⟩ : ∃ T, tokZ zs bp = T := ⟨_, rfl⟩
  have HTK := Lib.hid (fun W (ho : Only g W0 W) (hW : LX W h g A n c bp) => HTOK.out W ho bp hW)
  rw [hT] at HTK ⊢
  have HLE := Lib.hid hle
  clear hx hb hbp hT hlen hle
  dsimp only
  by_cases he0 : e = 0
  · rw [if_pos he0]
    subst he0
    go_enter Try.func12, Try.ntmps12
    go_upto_region 1 with fail
    rw [HW0.out]
    go_upto_region 6 with (first
      | (go_at_call 20; refine HBLK.out.mono ?_; (rintro r w2 ⟨rfl, hx2, ho2⟩); have HX := Lib.hid hx2; have HO := Lib.hid ho2; have k0 := hx2.k0; clear hx2 ho2)
      | (go_at_call 16; refine (HPO.out _ HX.out).mono ?_; (rintro r w3 ⟨rfl, rfl⟩))
      | (go_at_call 32; refine (HTK.out _ HO.out HX.out).mono ?_; (rintro r w5 ⟨k5, a5, v5, A5, m5, c5, q5, rfl, hx5, ho5, hf5⟩); have HBL := Lib.hid (Nat.lt_of_lt_of_le HBX.out.lt HO.out.size); have HX := Lib.hid hx5; have HO := Lib.hid (HO.out.trans ho5); have HF5 := Lib.hid hf5; have HBX := Lib.hid (HBX.out.only HO.out (by have := HLT.out; omega)); clear hx5 ho5 hf5))
    obtain ⟨W6, hW6⟩ : ∃ W6, w5.alloc (.cells #[.int .i64 k5, .int .i64 a5, .int .i64 v5, .slice A5 m5 c5] 28) = W6 := ⟨_, rfl⟩
    have hb6 := (Below.refl w5.heap.size w5).alloc (Nat.le_refl _) (.cells #[.int .i64 k5, .int .i64 a5, .int .i64 v5, .slice A5 m5 c5] 28)
    have hbx6 := Bx.new w5 28 (.int .i64 k5) (.int .i64 a5) (.int .i64 v5) (.slice A5 m5 c5)
    rw [hW6] at hb6 hbx6
    rw [hW6]
    have HX6 := Lib.hid (HX.out.below hb6 HX.out.lt HX.out.cu.lt)
    have HO6 := Lib.hid (HO.out.trans (Only.of_below hb6 g))
    have HBX6 := Lib.hid (HBX.out.below hb6 HBX.out.lt)
    have HB6 := Lib.hid hb6
    have HN6 := Lib.hid hbx6
    have HG5 := Lib.hid (show g < w5.heap.size ∧ h < w5.heap.size ∧ w.heap.size < w5.heap.size from ⟨HX.out.cu.lt, HX.out.lt, HBX.out.lt⟩)
    clear hW6 hb6 hbx6
    obtain ⟨rfl, rfl, rfl, hby, hfr⟩ := HF5.out (by first | rfl | trivial)
    have HBY := Lib.hid hby
    have HFR := Lib.hid hfr
    clear hby hfr
    have t0 := HN6.out.c0
    have t1 := HN6.out.c1
    have t2 := HN6.out.c2
    have t3 := HN6.out.c3
    have tf := HN6.out.fr
    go_upto_region 10 with fail
    have hn7 := HN6.out.set1_ (.int .i64 (bp : Int))
    have hb7 : Below w5.heap.size w5 (W6.setCell ⟨w5.heap.size, 1, none⟩ (.int .i64 (bp : Int))) := HB6.out.setCell (p := ⟨w5.heap.size, 1, none⟩) (Nat.le_refl _) _
    obtain ⟨W7, hW7⟩ : ∃ W7, W6.setCell ⟨w5.heap.size, 1, none⟩ (.int .i64 (bp : Int)) = W7 := ⟨_, rfl⟩
    rw [hW7] at hn7 hb7
    rw [hW7]
    have HX7 := Lib.hid (HX.out.below hb7 HG5.out.2.1 HG5.out.1)
    have HO7 := Lib.hid (HO.out.trans (Only.of_below hb7 g))
    have HBX7 := Lib.hid (HBX.out.below hb7 HG5.out.2.2)
    have HBY7 := Lib.hid ((HBY.out.below hb7 (Nat.le_refl _)).more hb7.size)
    clear t0 t1 t2 t3 tf
    have t0 := hn7.c0
    have t1 := hn7.c1
    have t2 := hn7.c2
    have t3 := hn7.c3
    have kb0 := HBX7.out.c0
    have kb1 := HBX7.out.c1
    have kb2 := HBX7.out.c2
    have kb3 := HBX7.out.c3
    have kbf := HBX7.out.fr
    clear hn7 hb7 hW7
    go_wp2_with fail
    refine bodyPost_ret (results_cell_row_tmp rfl _ _ w.heap.size 28 _ (0, 0) _ rfl HBX7.out.set4_ Try.underlying28 rfl (by kernel_rfl) _ rfl) rfl ?_
    have hl := HLT.out
    exact ⟨_, _, _, rfl, HX7.out.set4_ (by omega) (by omega), (HO0.out.trans HO7.out).set4_ (Nat.le_refl _), by rw [size_set4]; exact HBY7.out.set4_ HFR.out HBL.out, fun h9 b o e => by have h1 := HFR.out h9 b o e; have h2 := HBL.out; omega⟩
  · rw [if_neg he0]
    have heb : (e == 0) = false := beq_eq_false_iff_ne.2 he0
    clear he0
    go_enter Try.func12, Try.ntmps12
    go_upto_region 1 with fail
    rw [HW0.out]
    go_upto_region 6 with (first
      | (go_at_call 20; refine HBLK.out.mono ?_; (rintro r w2 ⟨rfl, hx2, ho2⟩); have HX := Lib.hid hx2; have HO := Lib.hid ho2; have k0 := hx2.k0; clear hx2 ho2)
      | (go_at_call 16; refine (HPO.out _ HX.out).mono ?_; (rintro r w3 ⟨rfl, rfl⟩))
      | (go_at_call 32; refine (HTK.out _ HO.out HX.out).mono ?_; (rintro r w5 ⟨k5, a5, v5, A5, m5, c5, q5, rfl, hx5, ho5, hf5⟩); have HBL := Lib.hid (Nat.lt_of_lt_of_le HBX.out.lt HO.out.size); have HX := Lib.hid hx5; have HO := Lib.hid (HO.out.trans ho5); have HF5 := Lib.hid hf5; have HBX := Lib.hid (HBX.out.only HO.out (by have := HLT.out; omega)); clear hx5 ho5 hf5))
    obtain ⟨W6, hW6⟩ : ∃ W6, w5.alloc (.cells #[.int .i64 k5, .int .i64 a5, .int .i64 v5, .slice A5 m5 c5] 28) = W6 := ⟨_, rfl⟩
    have hb6 := (Below.refl w5.heap.size w5).alloc (Nat.le_refl _) (.cells #[.int .i64 k5, .int .i64 a5, .int .i64 v5, .slice A5 m5 c5] 28)
    have hbx6 := Bx.new w5 28 (.int .i64 k5) (.int .i64 a5) (.int .i64 v5) (.slice A5 m5 c5)
    rw [hW6] at hb6 hbx6
    rw [hW6]
    have HX6 := Lib.hid (HX.out.below hb6 HX.out.lt HX.out.cu.lt)
    have HO6 := Lib.hid (HO.out.trans (Only.of_below hb6 g))
    have HBX6 := Lib.hid (HBX.out.below hb6 HBX.out.lt)
    have HB6 := Lib.hid hb6
    have HN6 := Lib.hid hbx6
    have HG5 := Lib.hid (show g < w5.heap.size ∧ h < w5.heap.size ∧ w.heap.size < w5.heap.size from ⟨HX.out.cu.lt, HX.out.lt, HBX.out.lt⟩)
    clear hW6 hb6 hbx6
    have k0 := HX6.out.k0
    go_upto_region 8 with (first
      | (go_at_call 17; refine (HSK.out _ _ HX6.out).mono ?_; (rintro r w7 ⟨rfl, hc7, ho7⟩); have HX7 := Lib.hid (HX6.out.moved hc7 ho7 HLE.out); have HO7 := Lib.hid (HO6.out.trans ho7); have HBX7 := Lib.hid (HBX6.out.only ho7 (by have := HLT.out; omega)); clear hc7 ho7))
    have kb0 := HBX7.out.c0
    have kb1 := HBX7.out.c1
    have kb2 := HBX7.out.c2
    have kb3 := HBX7.out.c3
    have kbf := HBX7.out.fr
    go_wp2_with fail
    refine bodyPost_ret (results_cell_row_tmp rfl _ _ w.heap.size 28 _ (0, 0) _ rfl HBX7.out.set4_ Try.underlying28 rfl (by kernel_rfl) _ rfl) rfl ?_
    have hl := HLT.out
    exact ⟨_, _, _, rfl, HX7.out.set4_ (by omega) (by omega), (HO0.out.trans HO7.out).set4_ (Nat.le_refl _), Byt.none_ _ _, fun h0 => absurd h0 (by omega)⟩
end Go.Proofs.Ytojbhckgegoldaa
