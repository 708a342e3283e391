/- Lemmas. -/
import Derived.Deep.RegionHeld3
import Derived.Test.YtpomkhcobpihmaaGreatPar12
import Derived.Test.YtpomkhcobpihmaaGreatPar26
namespace Go.Proofs.YtpomkhcobpihmaaGreat
section
open Go.RowKit
set_option linter.unusedVariables false
set_option maxRecDepth 100000
def CpP (w:World) (x:Ob) (r:Ending) (w':World):Prop:=∃ d0 d1 d2 d3 d4,r = .returned (.agg #[d0,d1,d2,d3,d4]) ∧ ObR w' (fun g=>w.heap.size ≤ g ∧ g < w'.heap.size) x d0 d1 d2 d3 d4 ∧ Below w.heap.size w w'
abbrev noneT:Nat → Prop:=fun _=>False
abbrev S1 (w:World) (base gO:Nat):Nat → Prop:=fun g=>w.heap.size + 1 < g ∧ g < base ∧ g ≠ gO
section
variable {w wr wr':World} {base gO mb cb:Nat} {bx:Array Value} {k n:Int} {AB:Option Addr} {b:List Int} {vL vD v:Value}
theorem set_blk9 (W:World) (g i x:Nat) (v:Value) (hne:x ≠ g):(W.setCell ⟨g,i,none⟩ v).heap[x]? = W.heap[x]?:=Below.heap_setCell W ⟨g,i,none⟩ v x hne
end
section
variable {T:Nat → Prop} {w w':World} {base:Nat} {v:Value} {l:Obs} {d:Ens}
theorem OwnO.drew (h:OwnO T w base v l):OwnO T w.drew base v l:=h.low ((Below.refl w.heap.size w).drew)
theorem OwnO.owned (h:OwnO T w base v l) (b:Nat) (hb:v.ownBlock = some b):base ≤ b:=by obtain ⟨cs,h1,_⟩:=h;exact (row_ltN h1 b hb).2
theorem OwnE.owned (h:OwnE T w base v d) (b:Nat) (hb:v.ownBlock = some b):base ≤ b:=by obtain ⟨cs,h1,_⟩:=h;exact (row_ltN h1 b hb).2
theorem OwnO.ltB (h:OwnO T w base v l) (b:Nat) (hb:v.ownBlock = some b):b < w.heap.size:=by obtain ⟨cs,h1,_⟩:=h;exact (row_ltN h1 b hb).1
theorem OwnE.ltB (h:OwnE T w base v d) (b:Nat) (hb:v.ownBlock = some b):b < w.heap.size:=by obtain ⟨cs,h1,_⟩:=h;exact (row_ltN h1 b hb).1
theorem OwnO.lit (h:OwnO T w base v l) (hb:Below w.heap.size w w') (x:Ob) {c0 c1 c2 c3 c4:Value} (hx:ObR w' (fun g=>w.heap.size ≤ g ∧ g < w'.heap.size) x c0 c1 c2 c3 c4) (hl:l.len ≤ 1000000000) (hbase:base ≤ w.heap.size) (hT:∀ g,T g → g < base) :
  ∃ A c w'',(Builtin.append_ #[24,24] 24 #[v,.slice (some ⟨w'.heap.size,0,none⟩) 1 1]).run Tryz.prog (w'.alloc (.cells #[c0,c1,c2,c3,c4] 27)) = .ok (.slice A (l.len + 1) c) w'' ∧ OwnO T w'' base (.slice A (l.len + 1) c) (l.snoc x) ∧ Below base w' w'':=by
 have hb1:Below w'.heap.size w' (w'.alloc (.cells #[c0,c1,c2,c3,c4] 27)):=(Below.refl _ _).alloc (Nat.le_refl _) _
 have h1:=(h.low hb).low hb1
 have hn:=heap_alloc_new w' (.cells #[c0,c1,c2,c3,c4] 27)
 have hx1:ObR (w'.alloc (.cells #[c0,c1,c2,c3,c4] 27)) (ownS T (w'.alloc (.cells #[c0,c1,c2,c3,c4] 27)) base v) x c0 c1 c2 c3 c4 :=
  ObR.keep (fun g hg=>hb1.block g hg.2) (fun g hg=>⟨.inr (Nat.le_trans hbase hg.1),Nat.lt_of_lt_of_le hg.2 hb1.size,fun e=>by have:=h.ltB g e;omega⟩) x hx
 obtain ⟨v',w'',hr,ho,hk,A,c,rfl⟩:=h1.append1 x w'.heap.size hx1 (by rw [cell_of_row _ _ 0 _ _ (0,0) hn];rfl) (by rw [cell_of_row _ _ 1 _ _ (0,0) hn];rfl) (by rw [cell_of_row _ _ 2 _ _ (0,0) hn];rfl) (by rw [cell_of_row _ _ 3 _ _ (0,0) hn];rfl) (by rw [cell_of_row _ _ 4 _ _ (0,0) hn];rfl) hl (Nat.le_trans hbase (Nat.le_trans hb.size hb1.size)) hT
 exact ⟨A,c,w'',hr,ho,(hb1.mono (Nat.le_trans hbase hb.size)).trans (hk.below (Nat.le_trans hbase (Nat.le_trans hb.size hb1.size)) (fun b hb=>h1.owned b hb))⟩
end
theorem blk_keep9 {W W':World} {g:Nat} {o:Obj} (hb:Below W.heap.size W W') (h:W.heap[g]? = some o):W'.heap[g]? = some o:=(hb.block g (row_lt W g o h)).trans h
theorem step_append_run9 {P:Program} {ops:Array Oper} {o:Oper} {a:Act} {w w':World} {K:Act → World → Prop} {Q:Exit → Act → World → Prop} {E:Prop} {v:Value}
  (hg:o.guard = none) (s x:Operand) (t:TypeId) (hop:o.op = Op.call { callee:=Callee.builtin Builtin.append,args:=#[s,x],argTypes:=#[t,t] }) (vs vx:Value) (hs:a.eval s = vs) (hx:a.eval x = vx)
  (hrun:(Builtin.append_ #[t,t] o.type #[vs,vx]).run P w = .ok v w') (hK:K (a.put o.dst v) w') :
  if Region.wanted o (yielded ops a.tmps) = true then Oper.wp P o a w K Q else E:=by
 have hw:Region.wanted o (yielded ops a.tmps) = true:=by simp [Region.wanted,hg]
 rw [if_pos hw]
 unfold Oper.wp
 simp [execOp,hop,resolve,invoke,builtin,hs,hx,hrun,Result.andThen]
 exact hK
end
end Go.Proofs.YtpomkhcobpihmaaGreat
