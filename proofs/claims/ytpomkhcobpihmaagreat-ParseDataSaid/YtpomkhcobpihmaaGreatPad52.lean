/- Lemmas. -/
import Derived.Test.YtpomkhcobpihmaaGreatPad49
import Derived.Test.YtpomkhcobpihmaaGreatPad51
namespace Go.Proofs.YtpomkhcobpihmaaGreat
section
open Go.RowKit
set_option linter.unusedVariables false
set_option maxRecDepth 100000
theorem bytS_B {W:World} {S:Nat → Prop} {A:Option Addr} {m c B:Nat} {zs:List Int} (h:BytS W S A m c zs) (hS:∀ b,S b → b < B):Byt W B A m c zs:=by
 obtain ⟨h1,h2,h3,h4⟩:=h
 refine ⟨h1,h2.1,h3,fun h0=>?_⟩
 obtain ⟨b,o,e,hb,hc⟩:=h4 h0
 exact ⟨b,o,e,hS b hb,hc⟩
structure OB5 (W:World) (G b:Nat) (X:Ob) (c0 c1 c2 c3 c4:Value):Prop where
 row:W.heap[b]? = some (.cells #[c0,c1,c2,c3,c4] 27 (0,0))
 ob:ObR W (fun y=>G < y ∧ y < W.heap.size) X c0 c1 c2 c3 c4
 gt:G < b
structure OB6 (W:World) (G b:Nat) (N:Int) (X:Ob) (c0 c1 c2 c3 c4:Value):Prop where
 row:W.heap[b]? = some (.cells #[.int .i64 N,c0,c1,c2,c3,c4] 34 (0,0))
 ob:ObR W (fun y=>G < y ∧ y < W.heap.size) X c0 c1 c2 c3 c4
 gt:G < b
section
variable {W W':World} {G b g:Nat} {N:Int} {X:Ob} {c0 c1 c2 c3 c4:Value}
theorem OB5.only (x:OB5 W G b X c0 c1 c2 c3 c4) (ho:Only g W W') (hg:g ≤ G):OB5 W' G b X c0 c1 c2 c3 c4 :=
 have h:=x.gt
 ⟨(ho.block b (row_lt _ _ _ x.row) (by omega)).trans x.row,ObR.keep (fun y hy=>ho.block y hy.2 (by omega)) (fun y hy=>⟨hy.1,Nat.lt_of_lt_of_le hy.2 ho.size⟩) _ x.ob,h⟩
theorem OB6.only (x:OB6 W G b N X c0 c1 c2 c3 c4) (ho:Only g W W') (hg:g ≤ G):OB6 W' G b N X c0 c1 c2 c3 c4 :=
 have h:=x.gt
 ⟨(ho.block b (row_lt _ _ _ x.row) (by omega)).trans x.row,ObR.keep (fun y hy=>ho.block y hy.2 (by omega)) (fun y hy=>⟨hy.1,Nat.lt_of_lt_of_le hy.2 ho.size⟩) _ x.ob,h⟩
theorem OB6.low (x:OB6 W G b N X c0 c1 c2 c3 c4) (hb:Below W.heap.size W W'):OB6 W' G b N X c0 c1 c2 c3 c4 :=
 x.only (Only.of_below hb G) (Nat.le_refl _)
theorem OB6.same {Y0 Y1 Y2 Y3 Y4:Value} (x:OB6 W G b N X c0 c1 c2 c3 c4) {b':Nat} {N':Int} (y:OB6 W G b' N' X Y0 Y1 Y2 Y3 Y4):Calls Tryz.prog 14 #[.agg #[c0,c1,c2,c3,c4],.agg #[Y0,Y1,Y2,Y3,Y4]] W fun r w'=>r = .returned (.bool true) ∧ Below W.heap.size W w' :=
 same_yes X W (ObR.keep (fun _ _=>rfl) (fun y hy=>hy.2) _ x.ob) (ObR.keep (fun _ _=>rfl) (fun y hy=>hy.2) _ y.ob)
end
end
end Go.Proofs.YtpomkhcobpihmaaGreat
