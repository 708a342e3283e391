/- Chapter 11, the document's own lexer: Token. -/
import Derived.Test.YtojbhckgegoldaaRk11
import Derived.Test.YtojbhckgegoldaaLq11
namespace Go.Proofs.Ytojbhckgegoldaa
open Go.RowKit
set_option linter.unusedVariables false
set_option maxRecDepth 100000

/-- What the document's Token leaves. -/
def RTokP (m : Nat) (T : TypeId) (X : List Value) (A : Option Addr) (n c : Nat) (t : Tk) (at_ : Nat) (w : World) (r : Ending) (w' : World) : Prop :=
  ∃ (A' : Option Addr) (m' c' : Nat), r = .returned (.tuple #[tkA t.k at_ t.v A' m' c', .int .i64 t.e]) ∧ LD w' m T X A n c t.q ∧ Only m w w' ∧ Byt w' w'.heap.size A' m' c' t.b ∧ From w.heap.size A' m'
set_option maxHeartbeats 4000000 in
theorem rtokC (m n c p B : Nat) (T : TypeId) (X : List Value) (A : Option Addr) (zs : List Int) (w : World) (h : LD w m T X A n c p) (hb : Byt w B A n c zs) (hB : B ≤ m) (hn : n ≤ 900000) (hp : p ≤ n) :
    Calls Try.prog 13 #[.pointer (some ⟨m, 0, none⟩)] w (RTokP m T X A n c (tokT zs p) (blkP zs p) w) := by
  have hlen := hb.len
  have hle := (blkP_le zs p (by rw [hb.len]; exact hp)).2
  rw [hlen] at hle
  have hb0 : Below w.heap.size w (w.alloc (.cells #[.int .i64 0, .int .i64 0, .int .i64 0, .slice none 0 0] 35)) := (Below.refl w.heap.size w).alloc (Nat.le_refl _) _
  have hbx0 := Bx.new w 35 (.int .i64 0) (.int .i64 0) (.int .i64 0) (.slice none 0 0)
  obtain ⟨W0, hW0⟩ : ∃ W0, w.alloc (.cells #[.int .i64 0, .int .i64 0, .int .i64 0, .slice none 0 0] 35) = W0 := ⟨_, rfl⟩
  have hs0 : W0.heap.size = w.heap.size + 1 := by rw [← hW0]; simp
  rw [hW0] at hb0 hbx0
  have HW0 := Lib.hid hW0
  have HBX := Lib.hid hbx0
  have HS0 := Lib.hid hs0
  have HO0 : Hid (Only m w W0) := Lib.hid (Only.of_below hb0 m)
  have hlm := h.lt
  have HMW := Lib.hid hlm
  have HLM := Lib.hid (show m < W0.heap.size by omega)
  have hx0 := h.below hb0 hlm
  have hby0 := hb.below hb0 (by omega)
  have HBLK := Lib.hid (rblankC m n c p B T X A zs W0 hx0 hby0 hB (by omega) hp)
  obtain ⟨bp, hbp⟩ : ∃ bp, blkP zs p = bp := ⟨_, rfl⟩
  unfold tokT
  rw [hbp] at hle HBLK ⊢
  have HTOK := Lib.hid (fun W b (x : TS W0 W m T X A n c bp b 0 bp 0 none 0 0) => rtokenC x hby0 hB hn hle)
  obtain ⟨⟨e, k, v, b, q⟩, hT⟩ : ∃ T, tokZ zs bp = T := ⟨_, rfl⟩
  rw [hT] at HTOK ⊢
  have HLE := Lib.hid hle
  clear h hb hb0 hbx0 hW0 hs0 hlm hx0 hby0 hbp hT hlen hle hp
  dsimp only
  by_cases he0 : e = 0
  · rw [if_pos he0]
    subst he0
    go_enter Try.func13, Try.ntmps13
    go_upto_region 1 with fail
    rw [HW0.out]
    go_upto_region 3 with (first
      | (go_at_call 21; refine HBLK.out.mono ?_; (rintro r w2 ⟨rfl, hx2, ho2⟩); have HX := Lib.hid hx2; have HO := Lib.hid ho2; have c1 := hx2.c1; clear hx2 ho2))
    obtain ⟨w3, hw3⟩ : ∃ w3, w2.alloc (.cells #[.int .i64 0, .int .i64 (bp : Int), .int .i64 0, .slice none 0 0] 35) = w3 := ⟨_, rfl⟩
    have hb3 := (Below.refl w2.heap.size w2).alloc (Nat.le_refl _) (.cells #[.int .i64 0, .int .i64 (bp : Int), .int .i64 0, .slice none 0 0] 35)
    have hbx3 := Bx.new w2 35 (.int .i64 0) (.int .i64 (bp : Int)) (.int .i64 0) (.slice none 0 0)
    have hs3 : w3.heap.size = w2.heap.size + 1 := by rw [← hw3]; simp
    rw [hw3] at hb3 hbx3
    rw [hw3]
    have HT := Lib.hid (show TS W0 w3 m T X A n c bp w2.heap.size 0 bp 0 none 0 0 from ⟨HX.out.below hb3 HX.out.lt, HO.out.trans (Only.of_below hb3 m), hbx3, HO.out.size, HLM.out⟩)
    have HS3 := Lib.hid (show W0.heap.size < w3.heap.size by have := HO.out.size; omega)
    clear hb3 hbx3 hw3 hs3 c1
    go_upto_region 4 with (first
      | (go_at_call 33; refine (HTOK.out _ _ HT.out).mono ?_; (rintro r w5 ⟨q5, k5, v5, A5, m5, c5, rfl, ht5, hf5⟩); have HT5 := Lib.hid ht5; have HF5 := Lib.hid hf5; clear ht5 hf5))
    have t0 := HT5.out.bx.c0
    have t1 := HT5.out.bx.c1
    have t2 := HT5.out.bx.c2
    have t3 := HT5.out.bx.c3
    have tf := HT5.out.bx.fr
    have c1 := HT5.out.ld.c1
    have cf := HT5.out.ld.fr 1
    obtain ⟨rfl, rfl, rfl, hby, hfr⟩ := HF5.out (by first | rfl | trivial)
    have HBY := Lib.hid hby
    have HFR := Lib.hid hfr
    clear hby hfr
    have HBX5 := Lib.hid (HBX.out.only HT5.out.ol (by have := HMW.out; omega))
    have r0 := HBX5.out.c0
    have r1 := HBX5.out.c1
    have r2 := HBX5.out.c2
    have r3 := HBX5.out.c3
    have rf := HBX5.out.fr
    go_wp2_with fail
    refine bodyPost_ret (results_cell_row_tmp rfl _ _ w.heap.size 35 _ (0, 0) _ rfl HBX5.out.set4_ Try.underlying35 rfl (by kernel_rfl) _ rfl) rfl ?_
    exact ⟨_, _, _, rfl, HT5.out.ld.keep (heap_set4 (by have := HMW.out; omega)), (HO0.out.trans HT5.out.ol).set4_ (Nat.le_refl _), by rw [size_set4]; exact HBY.out.set4_ HFR.out (by have := HS3.out; have := HS0.out; omega), fun h9 b o e => by have h1 := HFR.out h9 b o e; have := HS3.out; have := HS0.out; omega⟩
  · rw [if_neg he0]
    have heb : (e == 0) = false := beq_eq_false_iff_ne.2 he0
    clear he0
    go_enter Try.func13, Try.ntmps13
    go_upto_region 1 with fail
    rw [HW0.out]
    go_upto_region 3 with (first
      | (go_at_call 21; refine HBLK.out.mono ?_; (rintro r w2 ⟨rfl, hx2, ho2⟩); have HX := Lib.hid hx2; have HO := Lib.hid ho2; have c1 := hx2.c1; clear hx2 ho2))
    obtain ⟨w3, hw3⟩ : ∃ w3, w2.alloc (.cells #[.int .i64 0, .int .i64 (bp : Int), .int .i64 0, .slice none 0 0] 35) = w3 := ⟨_, rfl⟩
    have hb3 := (Below.refl w2.heap.size w2).alloc (Nat.le_refl _) (.cells #[.int .i64 0, .int .i64 (bp : Int), .int .i64 0, .slice none 0 0] 35)
    have hbx3 := Bx.new w2 35 (.int .i64 0) (.int .i64 (bp : Int)) (.int .i64 0) (.slice none 0 0)
    have hs3 : w3.heap.size = w2.heap.size + 1 := by rw [← hw3]; simp
    rw [hw3] at hb3 hbx3
    rw [hw3]
    have HT := Lib.hid (show TS W0 w3 m T X A n c bp w2.heap.size 0 bp 0 none 0 0 from ⟨HX.out.below hb3 HX.out.lt, HO.out.trans (Only.of_below hb3 m), hbx3, HO.out.size, HLM.out⟩)
    have HS3 := Lib.hid (show W0.heap.size < w3.heap.size by have := HO.out.size; omega)
    clear hb3 hbx3 hw3 hs3 c1
    go_upto_region 4 with (first
      | (go_at_call 33; refine (HTOK.out _ _ HT.out).mono ?_; (rintro r w5 ⟨q5, k5, v5, A5, m5, c5, rfl, ht5, hf5⟩); have HT5 := Lib.hid ht5; have HF5 := Lib.hid hf5; clear ht5 hf5))
    have t0 := HT5.out.bx.c0
    have t1 := HT5.out.bx.c1
    have t2 := HT5.out.bx.c2
    have t3 := HT5.out.bx.c3
    have tf := HT5.out.bx.fr
    have c1 := HT5.out.ld.c1
    have cf := HT5.out.ld.fr 1
    go_upto_region 6 with fail
    have ht6 := HT5.out.setP bp (bp : Int) rfl
    obtain ⟨w6, hw6⟩ : ∃ w6, w5.setCell ⟨m, 1, none⟩ (.int .i64 (bp : Int)) = w6 := ⟨_, rfl⟩
    rw [hw6] at ht6
    rw [hw6]
    have HT6 := Lib.hid ht6
    clear t0 t1 t2 t3 tf c1 cf ht6 hw6
    have t1 := HT6.out.bx.c1
    have HBX6 := Lib.hid (HBX.out.only HT6.out.ol (by have := HMW.out; omega))
    have r0 := HBX6.out.c0
    have r1 := HBX6.out.c1
    have r2 := HBX6.out.c2
    have r3 := HBX6.out.c3
    have rf := HBX6.out.fr
    go_wp2_with fail
    refine bodyPost_ret (results_cell_row_tmp rfl _ _ w.heap.size 35 _ (0, 0) _ rfl HBX6.out.set4_ Try.underlying35 rfl (by kernel_rfl) _ rfl) rfl ?_
    exact ⟨_, _, _, rfl, HT6.out.ld.keep (heap_set4 (by have := HMW.out; omega)), (HO0.out.trans HT6.out.ol).set4_ (Nat.le_refl _), Byt.none_ _ _, fun h0 => absurd h0 (by omega)⟩
end Go.Proofs.Ytojbhckgegoldaa
