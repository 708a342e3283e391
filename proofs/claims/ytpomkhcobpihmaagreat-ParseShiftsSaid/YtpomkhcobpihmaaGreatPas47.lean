/- Contracts of functions that the law calls, and what they lean on (a part). -/
import Derived.Test.YtpomkhcobpihmaaGreatPas44
import Derived.Test.YtpomkhcobpihmaaGreatPas46
namespace Go.Proofs.YtpomkhcobpihmaaGreat
section
open Go.RowKit
set_option linter.unusedVariables false
set_option maxRecDepth 100000
def blT (k : Nat) : Int := if k % 4 = 0 then 32 else if k % 4 = 1 then 10 else if k % 4 = 2 then 0 else 9
def blL : Nat → List Int
  | 0 => []
  | i + 1 => blL i ++ [blT i]
theorem blT_wh (k : Nat) : whB (blT k) = true := by
  unfold blT
  split
  · rfl
  split
  · rfl
  split
  · rfl
  · rfl
theorem blT_rng (k : Nat) : 0 ≤ blT k ∧ blT k < 256 := by
  unfold blT
  split
  · omega
  split
  · omega
  split
  · omega
  · omega
theorem blL_len : ∀ n, (blL n).length = n
  | 0 => rfl
  | n + 1 => by rw [blL, List.length_append, blL_len n]; rfl
theorem blL_wh : ∀ n, ∀ z ∈ blL n, whB z = true
  | 0, z, h => by cases h
  | n + 1, z, h => by
    rw [blL, List.mem_append] at h
    rcases h with h | h
    · exact blL_wh n z h
    · rw [List.mem_singleton] at h; subst h; exact blT_wh n
theorem blk_ahead (zs : List Int) : ∀ (l : List Int), (∀ z ∈ l, whB z = true) → blkP (l ++ zs) 0 = blkP (l ++ zs) l.length
  | [], _ => rfl
  | c :: l, h => by
    have h1 := (blkP_wh (c :: l ++ zs) 0 (by rw [List.cons_append, peek_c0]; exact h c (by simp))).2
    have h2 := blkP_shift (c :: l ++ zs) 1 0
    have h3 := blkP_shift (c :: l ++ zs) 1 l.length
    have h4 := blk_ahead zs l (fun z hz => h z (by simp [hz]))
    have hd : (c :: l ++ zs).drop 1 = l ++ zs := rfl
    rw [hd] at h2 h3
    rw [h1, show (0 + 1 : Nat) = 1 + 0 by rfl, h2, List.length_cons, Nat.add_comm l.length 1, h3, h4]
theorem shift_val (zs : List Int) (Y f d : Nat) : parF (blL Y ++ zs) (f + 1) .val d 0 = shB Y (parF zs (f + 1) .val d 0) := by
  have hb := blk_ahead zs (blL Y) (blL_wh Y)
  rw [blL_len] at hb
  have hs := parF_shift (blL Y ++ zs) Y (by rw [List.length_append, blL_len]; omega) (f + 1) .val d 0
  have hs' : parF (blL Y ++ zs) (f + 1) .val d Y = shB Y (parF ((blL Y ++ zs).drop Y) (f + 1) .val d 0) := hs
  rw [parF_blk _ f .val d 0 Y hb, hs']
  have hd : (blL Y ++ zs).drop Y = zs := by
    have := List.drop_left (l₁ := blL Y) (l₂ := zs)
    rw [blL_len] at this
    exact this
  rw [hd]
theorem shift_item (zs : List Int) (Y f d p : Nat) : itemT (blL Y ++ zs) f d (Y + p) = ⟨(itemT zs f d p).num, shB Y (itemT zs f d p).r⟩ := by
  have hd : (blL Y ++ zs).drop Y = zs := by
    have := List.drop_left (l₁ := blL Y) (l₂ := zs)
    rw [blL_len] at this
    exact this
  have hs := itemT_shift (blL Y ++ zs) Y f d p (by rw [List.length_append, blL_len]; omega)
  rw [hd] at hs
  exact hs
theorem bytS_B {W : World} {S : Nat → Prop} {A : Option Addr} {m c B : Nat} {zs : List Int} (h : BytS W S A m c zs) (hS : ∀ b, S b → b < B) : Byt W B A m c zs := by
  obtain ⟨h1, h2, h3, h4⟩ := h
  refine ⟨h1, h2.1, h3, fun h0 => ?_⟩
  obtain ⟨b, o, e, hb, hc⟩ := h4 h0
  exact ⟨b, o, e, hS b hb, hc⟩
theorem PX.lowB2 {B : Nat} {w w' : World} {m h g n c d p : Nat} {A : Option Addr} {zs : List Int} (x : PX w m h g A n c d zs p) (hb : Below B w w') (hm : m < B) (hh : h < B) (hg : g < B) : PX w' m h g A n c d zs p :=
  ⟨(hb.block m hm).trans x.ps, x.lx.keep2 (hb.block h hh) (hb.block g hg), x.bt.below hb (Nat.le_of_lt hg), x.ne, x.sm⟩
theorem PX.of_eq {w w' : World} {m h g n c d p : Nat} {A : Option Addr} {zs : List Int} (x : PX w m h g A n c d zs p) (hm : w'.heap[m]? = w.heap[m]?) (hh : w'.heap[h]? = w.heap[h]?) (hg : w'.heap[g]? = w.heap[g]?) (hb : Byt w' g A n c zs) : PX w' m h g A n c d zs p :=
  ⟨hm.trans x.ps, x.lx.keep2 hh hg, hb, x.ne, x.sm⟩
/-- Two parsers of the project, each with its own bytes. -/
structure QW (w W : World) (m1 h1 g1 : Nat) (A : Option Addr) (n c D : Nat) (zs : List Int) (p1 m2 h2 g2 : Nat) (A2 : Option Addr) (n2 c2 : Nat) (zs2 : List Int) (p2 : Nat) : Prop where
  x1 : PX W m1 h1 g1 A n c D zs p1
  x2 : PX W m2 h2 g2 A2 n2 c2 D zs2 p2
  b2 : BytS W (fun y => y ≠ g1 ∧ y < g2) A2 n2 c2 zs2
  lo : w.heap.size ≤ g1
  l1 : g1 < g2 ∧ m1 < g2 ∧ h1 < g2
  ne : m2 ≠ g1 ∧ h2 ≠ g1
  bl : Below w.heap.size w W
section
variable {w W W' : World} {m1 h1 g1 n c D p1 p1' m2 h2 g2 n2 c2 p2 p2' : Nat} {A A2 : Option Addr} {zs zs2 : List Int}
theorem QW.low (x : QW w W m1 h1 g1 A n c D zs p1 m2 h2 g2 A2 n2 c2 zs2 p2) (hb : Below W.heap.size W W') : QW w W' m1 h1 g1 A n c D zs p1 m2 h2 g2 A2 n2 c2 zs2 p2 :=
  ⟨x.x1.low hb, x.x2.low hb, x.b2.keep (fun y hy => hb.block y (Nat.lt_trans hy.2 x.x2.lx.cu.lt)) (fun y hy => hy), x.lo, x.l1, x.ne, x.bl.trans (hb.mono x.bl.size)⟩
theorem QW.mv1 (x : QW w W m1 h1 g1 A n c D zs p1 m2 h2 g2 A2 n2 c2 zs2 p2) (hp : PX W' m1 h1 g1 A n c D zs p1') (ho : Only g1 W W') : QW w W' m1 h1 g1 A n c D zs p1' m2 h2 g2 A2 n2 c2 zs2 p2 :=
  have hb2 := x.b2.keep (w' := W') (S' := fun y => y ≠ g1 ∧ y < g2) (fun y hy => ho.block y (Nat.lt_trans hy.2 x.x2.lx.cu.lt) hy.1) (fun y hy => hy)
  ⟨hp, x.x2.of_eq (ho.block _ x.x2.lt x.ne.1) (ho.block _ x.x2.lx.lt x.ne.2) (ho.block _ x.x2.lx.cu.lt (Nat.ne_of_gt x.l1.1)) (bytS_B hb2 (fun b hb => hb.2)), hb2, x.lo, x.l1, x.ne, x.bl.trans (ho.belowB x.lo (Nat.le_of_lt x.x1.lx.cu.lt))⟩
theorem QW.mv2 (x : QW w W m1 h1 g1 A n c D zs p1 m2 h2 g2 A2 n2 c2 zs2 p2) (hp : PX W' m2 h2 g2 A2 n2 c2 D zs2 p2') (ho : Only g2 W W') : QW w W' m1 h1 g1 A n c D zs p1 m2 h2 g2 A2 n2 c2 zs2 p2' :=
  ⟨x.x1.lowB2 (ho.below (Nat.le_of_lt x.x2.lx.cu.lt)) x.l1.2.1 x.l1.2.2 x.l1.1, hp, x.b2.keep (fun y hy => ho.block y (Nat.lt_trans hy.2 x.x2.lx.cu.lt) (Nat.ne_of_lt hy.2)) (fun y hy => hy), x.lo, x.l1, x.ne, x.bl.trans (ho.belowB (Nat.le_trans x.lo (Nat.le_of_lt x.l1.1)) (Nat.le_of_lt x.x2.lx.cu.lt))⟩
end
theorem Mine.ownLt {w : World} {base p : Nat} {v : Value} {zs : List Int} (h : Mine w base v p zs) (b : Nat) (hb : v.ownBlock = some b) : b < w.heap.size := by
  rcases h.own.2 with ⟨rfl, _⟩ | ⟨b', cap, cur, rfl, h2, h3, _⟩
  · cases hb
  · injection hb with hb
    dsimp only at hb
    subst hb
    exact row_lt _ _ _ h3
theorem qw_start {w wr w2 w3 w4 : World} {B n c D k c6 l c3 : Nat} {A A6 A3 : Option Addr} {zs bs zs2 : List Int} (hz : Byt w w.heap.size A n c zs) (hb : Below w.heap.size w wr) (hB : w.heap.size ≤ B) (hm : Mine wr B (.slice A6 k c6) k bs)
    (hx2 : PX w2 (wr.heap.size + 2) (wr.heap.size + 1) wr.heap.size A n c D zs 0) (hb2 : Below wr.heap.size wr w2) (hm3 : Mine w3 B (.slice A3 l c3) l zs2) (hk3 : KeepX (.slice A6 k c6) w2 (.slice A3 l c3) w3)
    (hx4 : PX w4 (w3.heap.size + 2) (w3.heap.size + 1) w3.heap.size A3 l c3 D zs2 0) (hb4 : Below w3.heap.size w3 w4) :
    QW w w4 (wr.heap.size + 2) (wr.heap.size + 1) wr.heap.size A n c D zs 0 (w3.heap.size + 2) (w3.heap.size + 1) w3.heap.size A3 l c3 zs2 0 := by
  have ho := fun b (h : (Value.slice A6 k c6).ownBlock = some b) => hm.ownLt b h
  have hlo := fun b (h : (Value.slice A6 k c6).ownBlock = some b) => Nat.le_trans hB (hm.owned b h)
  have hm2 := hx2.lt
  have hs3 := hk3.size
  have hwr := hb.size
  have hb2w := hb.trans (hb2.mono hwr)
  have hb3 := hb2w.trans (hk3.below (base := w.heap.size) hb2w.size hlo)
  have hb4w := hb3.trans (hb4.mono hb3.size)
  have e := fun y (h1 : wr.heap.size ≤ y) (h2 : y < w2.heap.size) => hk3.block y h2 (fun h => by have := ho y h; omega)
  have x3 := hx2.of_eq (w' := w3) (e _ (by omega) (by omega)) (e _ (by omega) (by omega)) (e _ (by omega) (by omega)) ((hz.below hb3 (Nat.le_refl _)).more hwr)
  obtain ⟨A9, c9, e9, hbs⟩ := hm3.bytS
  injection e9 with e91 e92 e93
  subst e91 e93
  obtain ⟨h1, h2, h3, h4⟩ := hbs
  have hbs2 : BytS w3 (fun y => y ≠ wr.heap.size ∧ y < w3.heap.size) A3 l c3 zs2 := ⟨h1, h2, h3, fun h0 => by
    obtain ⟨b, o, e, hb, hc⟩ := h4 h0
    refine ⟨b, o, e, ⟨fun h => ?_, hb.2⟩, hc⟩
    subst e
    rcases hk3.own b (by rfl) with h5 | h5
    · have := ho b h5; omega
    · omega⟩
  exact ⟨x3.low hb4, hx4, hbs2.keep (fun y hy => hb4.block y hy.2) (fun y hy => hy), hwr, ⟨by omega, by omega, by omega⟩, ⟨by omega, by omega⟩, hb4w⟩
/-- An object's box behind a block, and what lies in it. -/
structure OB5 (W : World) (G b : Nat) (X : Ob) (c0 c1 c2 c3 c4 : Value) : Prop where
  row : W.heap[b]? = some (.cells #[c0, c1, c2, c3, c4] 27 (0, 0))
  ob : ObR W (fun y => G < y ∧ y < W.heap.size) X c0 c1 c2 c3 c4
  gt : G < b
structure OB6 (W : World) (G b : Nat) (N : Int) (X : Ob) (c0 c1 c2 c3 c4 : Value) : Prop where
  row : W.heap[b]? = some (.cells #[.int .i64 N, c0, c1, c2, c3, c4] 34 (0, 0))
  ob : ObR W (fun y => G < y ∧ y < W.heap.size) X c0 c1 c2 c3 c4
  gt : G < b
section
variable {W W' : World} {G b g : Nat} {N : Int} {X : Ob} {c0 c1 c2 c3 c4 : Value}
theorem OB5.only (x : OB5 W G b X c0 c1 c2 c3 c4) (ho : Only g W W') (hg : g ≤ G) : OB5 W' G b X c0 c1 c2 c3 c4 :=
  have h := x.gt
  ⟨(ho.block b (row_lt _ _ _ x.row) (by omega)).trans x.row, ObR.keep (fun y hy => ho.block y hy.2 (by omega)) (fun y hy => ⟨hy.1, Nat.lt_of_lt_of_le hy.2 ho.size⟩) _ x.ob, h⟩
theorem OB5.low (x : OB5 W G b X c0 c1 c2 c3 c4) (hb : Below W.heap.size W W') : OB5 W' G b X c0 c1 c2 c3 c4 :=
  x.only (Only.of_below hb G) (Nat.le_refl _)
theorem OB6.only (x : OB6 W G b N X c0 c1 c2 c3 c4) (ho : Only g W W') (hg : g ≤ G) : OB6 W' G b N X c0 c1 c2 c3 c4 :=
  have h := x.gt
  ⟨(ho.block b (row_lt _ _ _ x.row) (by omega)).trans x.row, ObR.keep (fun y hy => ho.block y hy.2 (by omega)) (fun y hy => ⟨hy.1, Nat.lt_of_lt_of_le hy.2 ho.size⟩) _ x.ob, h⟩
theorem OB6.low (x : OB6 W G b N X c0 c1 c2 c3 c4) (hb : Below W.heap.size W W') : OB6 W' G b N X c0 c1 c2 c3 c4 :=
  x.only (Only.of_below hb G) (Nat.le_refl _)
theorem OB5.same {Y0 Y1 Y2 Y3 Y4 : Value} (x : OB5 W G b X c0 c1 c2 c3 c4) {b' : Nat} (y : OB5 W G b' X Y0 Y1 Y2 Y3 Y4) : Calls Tryz.prog 14 #[.agg #[c0, c1, c2, c3, c4], .agg #[Y0, Y1, Y2, Y3, Y4]] W fun r w' => r = .returned (.bool true) ∧ Below W.heap.size W w' :=
  same_yes X W (ObR.keep (fun _ _ => rfl) (fun y hy => hy.2) _ x.ob) (ObR.keep (fun _ _ => rfl) (fun y hy => hy.2) _ y.ob)
theorem OB6.same {Y0 Y1 Y2 Y3 Y4 : Value} (x : OB6 W G b N X c0 c1 c2 c3 c4) {b' : Nat} {N' : Int} (y : OB6 W G b' N' X Y0 Y1 Y2 Y3 Y4) : Calls Tryz.prog 14 #[.agg #[c0, c1, c2, c3, c4], .agg #[Y0, Y1, Y2, Y3, Y4]] W fun r w' => r = .returned (.bool true) ∧ Below W.heap.size W w' :=
  same_yes X W (ObR.keep (fun _ _ => rfl) (fun y hy => hy.2) _ x.ob) (ObR.keep (fun _ _ => rfl) (fun y hy => hy.2) _ y.ob)
end
end
end Go.Proofs.YtpomkhcobpihmaaGreat
