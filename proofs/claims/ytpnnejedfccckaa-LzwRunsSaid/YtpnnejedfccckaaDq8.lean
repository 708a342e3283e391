/- Chapter 8, the document's own LzwDecode: a row and a byte more, and that row in the table; the steps' own facts. -/
import Derived.Test.YtpnnejedfccckaaDp8
import Derived.Deep.RegionLaw
namespace Go.Proofs.Ytpnnejedfccckaa
open Go.RowKit
set_option linter.unusedVariables false
set_option maxRecDepth 100000

/-- An append whose run is known, as one step of a region that draws. -/
theorem step_append_run8 {P : Program} {ops : Array Oper} {o : Oper} {a : Act} {w w' : World} {K : Act → World → Prop} {Q : Exit → Act → World → Prop} {E : Prop} {v : Value}
    (hg : o.guard = none) (s x : Operand) (t : TypeId) (hop : o.op = Op.call { callee := Callee.builtin Builtin.append, args := #[s, x], argTypes := #[t, t] }) (vs vx : Value) (hs : a.eval s = vs) (hx : a.eval x = vx)
    (hrun : (Builtin.append_ #[t, t] o.type #[vs, vx]).run P w = .ok v w') (hK : K (a.put o.dst v) w') :
    if Region.wanted o (yielded ops a.tmps) = true then Oper.wp P o a w K Q else E := by
  have hw : Region.wanted o (yielded ops a.tmps) = true := by simp [Region.wanted, hg]
  rw [if_pos hw]
  unfold Oper.wp
  simp [execOp, hop, resolve, invoke, builtin, hs, hx, hrun, Result.andThen]
  exact hK
theorem RwS.byt_at {w : World} {base ks b L c : Nat} {v tv : Value} {zs : List Int} (h : RwS w base ks v tv (.slice (some ⟨b, 0, none⟩) L c) zs) : Byt w w.heap.size (some ⟨b, 0, none⟩) L c zs := by
  obtain ⟨b', c', e, hby, _⟩ := h.byt
  injection e with e1 e2 e3
  injection e1 with e1
  injection e1 with e1
  subst e1 e2 e3
  exact hby
theorem RwS.cell_at {w : World} {base ks b L c : Nat} {v tv : Value} {zs : List Int} (h : RwS w base ks v tv (.slice (some ⟨b, 0, none⟩) L c) zs) : ∀ i, i < zs.length → w.cell? ⟨b, i, none⟩ = some (.int .u8 (zs.getD i 0)) := by
  obtain ⟨b', c', e, _, hcl⟩ := h.byt
  injection e with e1 e2 e3
  injection e1 with e1
  injection e1 with e1
  subst e1
  exact hcl
/-- Behind Copy: the copy lies in new memory, a byte more goes behind it. -/
structure CpF (W W1 w5 : World) (g b5 c5 bx L : Nat) (x0 : Int) (last : List Int) : Prop where
  cx : w5.cell? ⟨bx, 0, none⟩ = some (.int .u8 x0)
  lb : bx < w5.heap.size
  ap : ∃ b6 c6 w', (Builtin.append_ #[23, 23] 23 #[.slice (some ⟨b5, 0, none⟩) L c5, .slice (some ⟨g, 0, none⟩) 1 1]).run Try.prog W1 = .ok (.slice (some ⟨b6, 0, none⟩) (L + 1) c6) w' ∧
    Mine w' W.heap.size (.slice (some ⟨b6, 0, none⟩) (L + 1) c6) (L + 1) (last ++ [x0]) ∧ Below W.heap.size W w' ∧ w'.cell? ⟨bx, 0, none⟩ = some (.int .u8 x0) ∧ bx < w'.heap.size
theorem copyA (W : World) (bl cl L bx : Nat) (x0 : Int) (last : List Int) (hl : Byt W W.heap.size (some ⟨bl, 0, none⟩) L cl last) (hL : 0 < L ∧ L ≤ 100000) (hx : W.cell? ⟨bx, 0, none⟩ = some (.int .u8 x0)) (h0 : 0 ≤ x0 ∧ x0 < 256) :
    Calls Try.prog 14 #[.slice (some ⟨bl, 0, none⟩) L cl] W.drew fun e w5 => ∃ b5 c5, e = .returned (.slice (some ⟨b5, 0, none⟩) L c5) ∧ CpF W (w5.alloc (.cells #[.int .u8 x0] 5)) w5 w5.heap.size b5 c5 bx L x0 last := by
  have hd : Below W.heap.size W W.drew := show Below W.heap.size W (W.drewN 1) from below_drewN (Below.refl _ _) 1
  have hbx := cell_lt hx
  refine (refCopy (some ⟨bl, 0, none⟩) L cl last W.drew (hl.below hd (Nat.le_refl _)) (by omega)).mono ?_
  rintro r w5 ⟨v5, rfl, hm5, hb5⟩
  have hm5 : Mine w5 W.heap.size v5 L last := hm5
  have hb5 : Below W.heap.size W w5 := hd.trans hb5
  obtain ⟨b5, c5, rfl, hlo, _, _, _⟩ := hm5.block8 hL.1
  have hb1 := (Below.refl w5.heap.size w5).alloc (Nat.le_refl _) (.cells #[.int .u8 x0] 5)
  obtain ⟨v6, w6, hrun, hm6, hk6⟩ := (hm5.kept hb1).appendX (byt_lit0 w5 x0 h0) 23 (by omega) (Nat.le_trans hb5.size (by simp))
  obtain ⟨b6, c6, rfl, _, _, _, _⟩ := hm6.block8 (Nat.succ_pos _)
  have hb6 : Below W.heap.size W w6 := (hb5.trans (hb1.mono hb5.size)).trans (hk6.below (Nat.le_trans hb5.size (by simp)) (fun b hb => by injection hb with hb; dsimp only at hb; omega))
  exact ⟨b5, c5, rfl, (hb5.cell hbx).trans hx, Nat.lt_of_lt_of_le hbx hb5.size, b6, c6, w6, hrun, hm6, hb6, (hb6.cell hbx).trans hx, Nat.lt_of_lt_of_le hbx hb6.size⟩
theorem copyB (W : World) (bl cl L bx : Nat) (x0 : Int) (last : List Int) (hl : Byt W W.heap.size (some ⟨bl, 0, none⟩) L cl last) (hL : 0 < L ∧ L ≤ 100000) (hx : W.cell? ⟨bx, 0, none⟩ = some (.int .u8 x0)) (h0 : 0 ≤ x0 ∧ x0 < 256) :
    Calls Try.prog 14 #[.slice (some ⟨bl, 0, none⟩) L cl] (W.alloc (.cells #[.int .u8 x0] 5)).drew fun e w5 => ∃ b5 c5, e = .returned (.slice (some ⟨b5, 0, none⟩) L c5) ∧ CpF W w5 w5 W.heap.size b5 c5 bx L x0 last := by
  have hd : Below W.heap.size W W.drew := show Below W.heap.size W (W.drewN 1) from below_drewN (Below.refl _ _) 1
  have hd2 : Below W.heap.size W (W.alloc (.cells #[.int .u8 x0] 5)).drew := show Below W.heap.size W (W.drew.alloc (.cells #[.int .u8 x0] 5)) from hd.alloc (Nat.le_refl _) _
  have hbx := cell_lt hx
  refine (refCopy (some ⟨bl, 0, none⟩) L cl last _ ((hl.below hd2 (Nat.le_refl _)).more hd2.size) (by omega)).mono ?_
  rintro r w5 ⟨v5, rfl, hm5, hb5⟩
  have hlit : Byt w5 (W.heap.size + 1) (some ⟨W.heap.size, 0, none⟩) 1 1 [x0] := Byt.below (show Byt (W.alloc (.cells #[.int .u8 x0] 5)).drew (W.heap.size + 1) (some ⟨W.heap.size, 0, none⟩) 1 1 [x0] from byt_lit0 W.drew x0 h0) hb5 (by show W.heap.size + 1 ≤ (W.drew.alloc (.cells #[.int .u8 x0] 5)).heap.size; simp)
  have hb5' : Below W.heap.size W w5 := hd2.trans (hb5.mono (by have := hd2.size; exact this))
  obtain ⟨b5, c5, rfl, hlo, _, _, _⟩ := hm5.block8 hL.1
  obtain ⟨v6, w6, hrun, hm6, hk6⟩ := hm5.appendX hlit 23 (by omega) hb5.size
  obtain ⟨b6, c6, rfl, _, _, _, _⟩ := hm6.block8 (Nat.succ_pos _)
  have hsz := hd2.size
  have hb6 : Below W.heap.size W w6 := hb5'.trans (hk6.below hb5'.size (fun b hb => by injection hb with hb; dsimp only at hb; omega))
  exact ⟨b5, c5, rfl, (hb5'.cell hbx).trans hx, Nat.lt_of_lt_of_le hbx hb5'.size, b6, c6, w6, hrun, hm6.weak8 hsz, hb6, (hb6.cell hbx).trans hx, Nat.lt_of_lt_of_le hbx hb6.size⟩
/-- A row more in the table. -/
theorem tabAdd {w0 W w6 : World} {ks bx Lx cx p b6 c6 : Nat} {v tv lv : Value} {vals : List Value} {T : List (List Int)} {last out x ys : List Int} {M : Nat} {bad : Int} (hd : DeS w0 W w0.heap.size ks v tv lv vals T last out M bad) (hx : RwS W w0.heap.size ks v tv (.slice (some ⟨bx, 0, none⟩) Lx cx) x)
    (hm : Mine w6 W.heap.size (.slice (some ⟨b6, 0, none⟩) p c6) p ys) (hp : 0 < p) (hb : Below W.heap.size W w6) (hT : T.length ≤ 3838) :
    ∃ A7 c7 w7, (Builtin.append_ #[58, 58] 58 #[tv, .slice (some ⟨w6.heap.size, 0, none⟩) 1 1]).run Try.prog (w6.alloc (.cells #[.slice (some ⟨b6, 0, none⟩) p c6] 23)) = .ok (.slice A7 (vals.length + 1) c7) w7 ∧
      DeS w0 w7 w0.heap.size ks v (.slice A7 (vals.length + 1) c7) lv (vals ++ [.slice (some ⟨b6, 0, none⟩) p c6]) (T ++ [ys]) last out M bad ∧ RwS w7 w0.heap.size ks v (.slice A7 (vals.length + 1) c7) (.slice (some ⟨bx, 0, none⟩) Lx cx) x := by
  have hb1 := (Below.refl w6.heap.size w6).alloc (Nat.le_refl _) (.cells #[.slice (some ⟨b6, 0, none⟩) p c6] 23)
  have hl6 : Below W.heap.size W (w6.alloc (.cells #[.slice (some ⟨b6, 0, none⟩) p c6] 23)) := hb.alloc hb.size _
  have hd6 := hd.lower hl6
  obtain ⟨v7, w7, hrun, ho, hk, A7, c7, rfl⟩ := hd6.tab.bytes 58 w6.heap.size (some ⟨b6, 0, none⟩) p c6 (by simp [World.cell?_alloc_mark]) (by have := hd.len; omega) (Nat.le_trans hd.snk.base_le hl6.size)
  have hr : RwS (w6.alloc (.cells #[.slice (some ⟨b6, 0, none⟩) p c6] 23)) w0.heap.size ks v tv (.slice (some ⟨b6, 0, none⟩) p c6) ys :=
    RwS.new (w := W) ((hm.kept hb1).weak8 hd.snk.base_le) hp hm.owned hd.snk.lt hd.snk.row.lt (fun b hb => (hd.tab.lt b hb).1)
  exact ⟨A7, c7, w7, hrun, hd6.enter hk hr ho, (hx.low hl6).tab hk⟩
end Go.Proofs.Ytpnnejedfccckaa
