/- Contracts of functions that the law calls, and what they lean on (a part). -/
import Derived.Test.YtpomkhcobpihmaaGreatPai50
namespace Go.Proofs.YtpomkhcobpihmaaGreat
section
open Go.RowKit
set_option linter.unusedVariables false
set_option maxRecDepth 100000
def RsI (b:Nat) (W:World):Prop:=W.heap[b]? = some (.cells #[.int .i64 0,.int .i64 0,.int .i64 0,.slice none 0 0,.slice none 0 0,.slice none 0 0] 34 (0,0))
abbrev set6 (W:World) (b:Nat) (x0 x1 x2 x3 x4 x5:Value):World:=(((((W.setCell ⟨b,0,none⟩ x0).setCell ⟨b,1,none⟩ x1).setCell ⟨b,2,none⟩ x2).setCell ⟨b,3,none⟩ x3).setCell ⟨b,4,none⟩ x4).setCell ⟨b,5,none⟩ x5
def ItmP (m h g:Nat) (A:Option Addr) (n c d:Nat) (zs:List Int) (w:World) (R:It13) (r:Ending) (w':World):Prop :=
 ∃ d0 d1 d2 d3 d4,r = .returned (.tuple #[.agg #[.int .i64 R.num,d0,d1,d2,d3,d4],.int .i64 R.r.e]) ∧ ObR w' (nwT w w') R.r.x d0 d1 d2 d3 d4 ∧ PX w' m h g A n c d zs R.r.q ∧ Only g w w'
structure FinI (m h g:Nat) (A:Option Addr) (n c d:Nat) (zs:List Int) (w W:World) (b:Nat) (x:Ob) (q:Nat) (v d0 d1 d2 d3 d4:Value):Prop where
 row:(set6 W b v d0 d1 d2 d3 d4).heap[b]? = some (.cells #[v,d0,d1,d2,d3,d4] 34 (0,0))
 ob:ObR (set6 W b v d0 d1 d2 d3 d4) (nwT w (set6 W b v d0 d1 d2 d3 d4)) x d0 d1 d2 d3 d4
 px:PX (set6 W b v d0 d1 d2 d3 d4) m h g A n c d zs q
 on:Only g w (set6 W b v d0 d1 d2 d3 d4)
section
variable {w W W':World} {m h g n c d q b:Nat} {A:Option Addr} {zs:List Int} {x:Ob} {v d0 d1 d2 d3 d4:Value}
theorem RsI.new (w:World):RsI w.heap.size (w.alloc (.cells #[.int .i64 0,.int .i64 0,.int .i64 0,.slice none 0 0,.slice none 0 0,.slice none 0 0] 34)):=heap_alloc_new w _
theorem RsI.lt (r:RsI b W):b < W.heap.size:=row_lt W _ _ r
theorem RsI.only (r:RsI b W) (ho:Only g W W') (hg:g < b):RsI b W':=(ho.block _ r.lt (Nat.ne_of_gt hg)).trans r
theorem RsI.low (r:RsI b W) (hb:Below W.heap.size W W'):RsI b W':=(hb.block _ r.lt).trans r
theorem RsI.cells (r:RsI b W):W.cell? ⟨b,0,none⟩ = some (.int .i64 0) ∧ W.cell? ⟨b,1,none⟩ = some (.int .i64 0) ∧ W.cell? ⟨b,2,none⟩ = some (.int .i64 0) ∧ W.cell? ⟨b,3,none⟩ = some (.slice none 0 0) ∧ W.cell? ⟨b,4,none⟩ = some (.slice none 0 0) ∧ W.cell? ⟨b,5,none⟩ = some (.slice none 0 0) ∧ (∀ i,W.frozen? ⟨b,i,none⟩ = false) :=
 ⟨by rw [cell_of_row W b 0 _ _ (0,0) r];rfl,by rw [cell_of_row W b 1 _ _ (0,0) r];rfl,by rw [cell_of_row W b 2 _ _ (0,0) r];rfl,by rw [cell_of_row W b 3 _ _ (0,0) r];rfl,by rw [cell_of_row W b 4 _ _ (0,0) r];rfl,by rw [cell_of_row W b 5 _ _ (0,0) r];rfl,fun i=>by have h:W.heap[b]? = _:=r;simp [World.frozen?,h]⟩
theorem size_set6':(set6 W b v d0 d1 d2 d3 d4).heap.size = W.heap.size:=by simp [World.setCell]
theorem RsI.fin (r:RsI b W) (hwb:w.heap.size ≤ b) (hx:ObR W (fun y=>(w.heap.size ≤ y ∧ y ≠ b) ∧ y < W.heap.size) x d0 d1 d2 d3 d4) (hp:PX W m h g A n c d zs q) (ho:Only g w W) (hl:m < w.heap.size ∧ h < w.heap.size ∧ g < w.heap.size):FinI m h g A n c d zs w W b x q v d0 d1 d2 d3 d4 :=
 have hm:m < b:=Nat.lt_of_lt_of_le hl.1 hwb
 have hh:h < b:=Nat.lt_of_lt_of_le hl.2.1 hwb
 have hg:g < b:=Nat.lt_of_lt_of_le hl.2.2 hwb
 ⟨set6_row r,ObR.keep (fun y hy=>heap_set6 hy.1.2) (fun y hy=>⟨hy.1.1,by rw [size_set6'];exact hy.2⟩) x hx,
  (((((hp.set1 hm hh hg 0 v).set1 hm hh hg 1 d0).set1 hm hh hg 2 d1).set1 hm hh hg 3 d2).set1 hm hh hg 4 d3).set1 hm hh hg 5 d4,
  (((((ho.setN hwb 0 v).setN hwb 1 d0).setN hwb 2 d1).setN hwb 3 d2).setN hwb 4 d3).setN hwb 5 d4⟩
end
set_option maxHeartbeats 4000000 in
theorem pItemC {w:World} {m h g n c d p:Nat} {A:Option Addr} {zs:List Int} (f:Nat) (x:PX w m h g A n c d zs p) (hd:d ≤ 28) (hf:n < f) :
  Calls Tryz.prog 11 #[.pointer (some ⟨m,0,none⟩)] w (ItmP m h g A n c d zs w (itemT zs f d p)):=by
 have hx0:=x.alloc (.cells #[.int .i64 0,.int .i64 0,.int .i64 0,.slice none 0 0,.slice none 0 0,.slice none 0 0] 34)
 have ho0:=(Only.refl g w).alloc (.cells #[.int .i64 0,.int .i64 0,.int .i64 0,.slice none 0 0,.slice none 0 0,.slice none 0 0] 34)
 have hr0:=RsI.new w
 obtain ⟨W0,hW0⟩:∃ W0,w.alloc (.cells #[.int .i64 0,.int .i64 0,.int .i64 0,.slice none 0 0,.slice none 0 0,.slice none 0 0] 34) = W0:=⟨_,rfl⟩
 rw [hW0] at hx0 ho0 hr0
 have HEM:=lH (emptyC hx0)
 have HHD:=lH (headC hx0)
 have HLT:Hid (m < w.heap.size ∧ h < w.heap.size ∧ g < w.heap.size):=lH ⟨x.lt,x.lx.lt,x.lx.cu.lt⟩
 have HO0:=lH ho0
 have HR0:=lH hr0
 have HW0:=lH hW0
 unfold itemT
 obtain ⟨H,hH⟩:∃ H,headT zs p = H:=⟨_,rfl⟩
 rw [hH] at HHD ⊢
 obtain ⟨N1,E1,Q1⟩:=H
 dsimp only at HHD ⊢
 have HBD:=lH (fun W (hW:PX W m h g A n c d zs Q1)=>bodyC f hW hd (by omega))
 obtain ⟨B,hB⟩:∃ B,bodyT zs (parF zs f .val d Q1) = B:=⟨_,rfl⟩
 rw [hB] at HBD ⊢
 obtain ⟨E2,X2,Q2⟩:=B
 dsimp only at HBD ⊢
 have HWD:=lH (fun W (hW:PX W m h g A n c d zs Q2)=>wordC hW strEnO)
 obtain ⟨T,hT⟩:∃ T,wrdT zs Q2 strEnO = T:=⟨_,rfl⟩
 rw [hT] at HWD ⊢
 obtain ⟨E3,Q3⟩:=T
 dsimp only at HWD ⊢
 clear hx0 ho0 hr0 hW0 x hH hB hT hd hf
 by_cases h1:E1 = 0
 ·subst h1
  rw [if_neg (fun h=>h rfl)]
  by_cases h2:E2 = 0
  ·subst h2
   rw [if_neg (fun h=>h rfl)]
   by_cases h3:E3 = 0
   ·subst h3
    rw [if_neg (fun h=>h rfl)]
    go_enter Tryz.func11,Tryz.ntmps11
    go_upto_region 1 with fail
    rw [HW0.out]
    go_upto_region 4 with (first
     | (go_at_call 26;refine HEM.out.mono ?_;(rintro r w1 ⟨rfl,rfl⟩))
     | (go_at_call 27;refine HHD.out.mono ?_;(rintro r w2 ⟨rfl,hx2,ho2⟩);have HX2:=lH hx2;have HO2:=lH (HO0.out.trans ho2);have HR2:=lH (HR0.out.only ho2 HLT.out.2.2);clear hx2 ho2))
    go_upto_region 7 with (first
     | (go_at_call 28;refine (HBD.out _ HX2.out).mono ?_;(rintro r w5 ⟨d0,d1,d2,d3,d4,hrr,hob,hx5,ho5⟩);(try dsimp only at hrr hob hx5);subst hrr;obtain ⟨k5,n5,A5,m5,e5,A6,m6,e6,A7,m7,e7,rfl,rfl,rfl,rfl,rfl⟩:=hob.shp;have HOB:=lH hob;have HX5:=lH hx5;have HO5:=lH ho5;clear hob hx5 ho5))
    have hb6:=(Below.refl w5.heap.size w5).alloc (Nat.le_refl _) (.cells #[.int .i64 k5,.int .i64 n5,.slice A5 m5 e5,.slice A6 m6 e6,.slice A7 m7 e7] 27)
    have hn6:=heap_alloc_new w5 (.cells #[.int .i64 k5,.int .i64 n5,.slice A5 m5 e5,.slice A6 m6 e6,.slice A7 m7 e7] 27)
    obtain ⟨w6,hw6⟩:∃ w6,w5.alloc (.cells #[.int .i64 k5,.int .i64 n5,.slice A5 m5 e5,.slice A6 m6 e6,.slice A7 m7 e7] 27) = w6:=⟨_,rfl⟩
    rw [hw6] at hb6 hn6
    rw [hw6]
    have HX6:=lH (HX5.out.low hb6)
    have HO6:=lH ((HO2.out.trans HO5.out).trans (Only.of_below hb6 g))
    have HOB6:=lH (ObR.keep (S':=fun y=>(w.heap.size ≤ y ∧ y ≠ w.heap.size) ∧ y < w5.heap.size) (fun y hy=>hb6.block y hy.2) (fun y hy=>⟨⟨by have:=HR2.out.lt;have:=hy.1;omega,by have:=HR2.out.lt;have:=hy.1;omega⟩,hy.2⟩) _ HOB.out)
    have HR6:=lH ((HR2.out.only HO5.out HLT.out.2.2).low hb6)
    have HN6:=lH hn6
    have HG5:Hid (w.heap.size < w5.heap.size):=lH (HR2.out.only HO5.out HLT.out.2.2).lt
    clear hb6 hn6 hw6
    go_upto_region 10 with (first
     | (go_at_call 29;refine (HWD.out _ HX6.out).mono ?_;(rintro r w7 ⟨rfl,hx7,ho7⟩);have HX7:=lH hx7;have HO7:=lH ho7;clear hx7 ho7))
    have HR7:=lH (HR6.out.only HO7.out HLT.out.2.2)
    have hn7:=(HO7.out.block _ (row_lt _ _ _ HN6.out) (by have:=HG5.out;have:=HLT.out.2.2;omega)).trans HN6.out
    have n0:=cell_of_row w7 w5.heap.size 0 _ _ (0,0) hn7
    have n1:=cell_of_row w7 w5.heap.size 1 _ _ (0,0) hn7
    have n2:=cell_of_row w7 w5.heap.size 2 _ _ (0,0) hn7
    have n3:=cell_of_row w7 w5.heap.size 3 _ _ (0,0) hn7
    have n4:=cell_of_row w7 w5.heap.size 4 _ _ (0,0) hn7
    have hob7:=ObR.keep (S':=fun y=>(w.heap.size ≤ y ∧ y ≠ w.heap.size) ∧ y < w7.heap.size) (fun y hy=>HO7.out.block y (Nat.lt_trans hy.2 (row_lt _ _ _ HN6.out)) (by have:=HLT.out.2.2;have:=hy.1;omega)) (fun y hy=>⟨hy.1,Nat.lt_of_lt_of_le (Nat.lt_trans hy.2 (row_lt _ _ _ HN6.out)) HO7.out.size⟩) _ HOB6.out
    have HF:=lH (RsI.fin (w:=w) (v:=.int .i64 N1) HR7.out (Nat.le_refl _) hob7 HX7.out (HO6.out.trans HO7.out) HLT.out)
    obtain ⟨r0,r1,r2,r3,r4,r5,r6⟩:=RsI.cells HR7.out
    clear hn7 hob7
    go_wp2_with fail
    refine bodyPost_ret (results_cell_row_tmp rfl _ _ w.heap.size 34 _ (0,0) _ rfl HF.out.row Tryz.underlying34 rfl (by kernel_rfl) _ rfl) rfl ?_
    exact ⟨_,_,_,_,_,rfl,HF.out.ob,HF.out.px,HF.out.on⟩
   ·rw [if_pos h3]
    have h3n:(E3 != 0) = true:=by rw [bne,beq_eq_false_iff_ne.2 h3];rfl
    clear h3
    go_enter Tryz.func11,Tryz.ntmps11
    go_upto_region 1 with fail
    rw [HW0.out]
    go_upto_region 4 with (first
     | (go_at_call 26;refine HEM.out.mono ?_;(rintro r w1 ⟨rfl,rfl⟩))
     | (go_at_call 27;refine HHD.out.mono ?_;(rintro r w2 ⟨rfl,hx2,ho2⟩);have HX2:=lH hx2;have HO2:=lH (HO0.out.trans ho2);have HR2:=lH (HR0.out.only ho2 HLT.out.2.2);clear hx2 ho2))
    go_upto_region 7 with (first
     | (go_at_call 28;refine (HBD.out _ HX2.out).mono ?_;(rintro r w5 ⟨d0,d1,d2,d3,d4,hrr,hob,hx5,ho5⟩);(try dsimp only at hrr hob hx5);subst hrr;obtain ⟨k5,n5,A5,m5,e5,A6,m6,e6,A7,m7,e7,rfl,rfl,rfl,rfl,rfl⟩:=hob.shp;have HOB:=lH hob;have HX5:=lH hx5;have HO5:=lH ho5;clear hob hx5 ho5))
    have hb6:=(Below.refl w5.heap.size w5).alloc (Nat.le_refl _) (.cells #[.int .i64 k5,.int .i64 n5,.slice A5 m5 e5,.slice A6 m6 e6,.slice A7 m7 e7] 27)
    have hn6:=heap_alloc_new w5 (.cells #[.int .i64 k5,.int .i64 n5,.slice A5 m5 e5,.slice A6 m6 e6,.slice A7 m7 e7] 27)
    obtain ⟨w6,hw6⟩:∃ w6,w5.alloc (.cells #[.int .i64 k5,.int .i64 n5,.slice A5 m5 e5,.slice A6 m6 e6,.slice A7 m7 e7] 27) = w6:=⟨_,rfl⟩
    rw [hw6] at hb6 hn6
    rw [hw6]
    have HX6:=lH (HX5.out.low hb6)
    have HO6:=lH ((HO2.out.trans HO5.out).trans (Only.of_below hb6 g))
    have HOB6:=lH (ObR.keep (S':=fun y=>(w.heap.size ≤ y ∧ y ≠ w.heap.size) ∧ y < w5.heap.size) (fun y hy=>hb6.block y hy.2) (fun y hy=>⟨⟨by have:=HR2.out.lt;have:=hy.1;omega,by have:=HR2.out.lt;have:=hy.1;omega⟩,hy.2⟩) _ HOB.out)
    have HR6:=lH ((HR2.out.only HO5.out HLT.out.2.2).low hb6)
    have HN6:=lH hn6
    have HG5:Hid (w.heap.size < w5.heap.size):=lH (HR2.out.only HO5.out HLT.out.2.2).lt
    clear hb6 hn6 hw6
    go_upto_region 10 with (first
     | (go_at_call 29;refine (HWD.out _ HX6.out).mono ?_;(rintro r w7 ⟨rfl,hx7,ho7⟩);have HX7:=lH hx7;have HO7:=lH ho7;clear hx7 ho7))
    have HR7:=lH (HR6.out.only HO7.out HLT.out.2.2)
    have HF:=lH (RsI.fin (w:=w) (v:=.int .i64 0) HR7.out (Nat.le_refl _) (ob_nul _ _) HX7.out (HO6.out.trans HO7.out) HLT.out)
    obtain ⟨r0,r1,r2,r3,r4,r5,r6⟩:=RsI.cells HR7.out
    go_wp2_with fail
    refine bodyPost_ret (results_cell_row_tmp rfl _ _ w.heap.size 34 _ (0,0) _ rfl HF.out.row Tryz.underlying34 rfl (by kernel_rfl) _ rfl) rfl ?_
    exact ⟨_,_,_,_,_,rfl,HF.out.ob,HF.out.px,HF.out.on⟩
  ·rw [if_pos h2]
   have h2n:(E2 != 0) = true:=by rw [bne,beq_eq_false_iff_ne.2 h2];rfl
   clear h2
   go_enter Tryz.func11,Tryz.ntmps11
   go_upto_region 1 with fail
   rw [HW0.out]
   go_upto_region 4 with (first
    | (go_at_call 26;refine HEM.out.mono ?_;(rintro r w1 ⟨rfl,rfl⟩))
    | (go_at_call 27;refine HHD.out.mono ?_;(rintro r w2 ⟨rfl,hx2,ho2⟩);have HX2:=lH hx2;have HO2:=lH (HO0.out.trans ho2);have HR2:=lH (HR0.out.only ho2 HLT.out.2.2);clear hx2 ho2))
   go_upto_region 7 with (first
    | (go_at_call 28;refine (HBD.out _ HX2.out).mono ?_;(rintro r w5 ⟨d0,d1,d2,d3,d4,hrr,hob,hx5,ho5⟩);(try dsimp only at hrr hob hx5);subst hrr;obtain ⟨k5,n5,A5,m5,e5,A6,m6,e6,A7,m7,e7,rfl,rfl,rfl,rfl,rfl⟩:=hob.shp;have HOB:=lH hob;have HX5:=lH hx5;have HO5:=lH ho5;clear hob hx5 ho5))
   have hb6:=(Below.refl w5.heap.size w5).alloc (Nat.le_refl _) (.cells #[.int .i64 k5,.int .i64 n5,.slice A5 m5 e5,.slice A6 m6 e6,.slice A7 m7 e7] 27)
   have hn6:=heap_alloc_new w5 (.cells #[.int .i64 k5,.int .i64 n5,.slice A5 m5 e5,.slice A6 m6 e6,.slice A7 m7 e7] 27)
   obtain ⟨w6,hw6⟩:∃ w6,w5.alloc (.cells #[.int .i64 k5,.int .i64 n5,.slice A5 m5 e5,.slice A6 m6 e6,.slice A7 m7 e7] 27) = w6:=⟨_,rfl⟩
   rw [hw6] at hb6 hn6
   rw [hw6]
   have HX6:=lH (HX5.out.low hb6)
   have HO6:=lH ((HO2.out.trans HO5.out).trans (Only.of_below hb6 g))
   have HOB6:=lH (ObR.keep (S':=fun y=>(w.heap.size ≤ y ∧ y ≠ w.heap.size) ∧ y < w5.heap.size) (fun y hy=>hb6.block y hy.2) (fun y hy=>⟨⟨by have:=HR2.out.lt;have:=hy.1;omega,by have:=HR2.out.lt;have:=hy.1;omega⟩,hy.2⟩) _ HOB.out)
   have HR6:=lH ((HR2.out.only HO5.out HLT.out.2.2).low hb6)
   have HN6:=lH hn6
   have HG5:Hid (w.heap.size < w5.heap.size):=lH (HR2.out.only HO5.out HLT.out.2.2).lt
   clear hb6 hn6 hw6
   have HF:=lH (RsI.fin (w:=w) (v:=.int .i64 0) HR6.out (Nat.le_refl _) (ob_nul _ _) HX6.out HO6.out HLT.out)
   obtain ⟨r0,r1,r2,r3,r4,r5,r6⟩:=RsI.cells HR6.out
   go_wp2_with fail
   refine bodyPost_ret (results_cell_row_tmp rfl _ _ w.heap.size 34 _ (0,0) _ rfl HF.out.row Tryz.underlying34 rfl (by kernel_rfl) _ rfl) rfl ?_
   exact ⟨_,_,_,_,_,rfl,HF.out.ob,HF.out.px,HF.out.on⟩
 ·rw [if_pos h1]
  have h1n:(E1 != 0) = true:=by rw [bne,beq_eq_false_iff_ne.2 h1];rfl
  clear h1
  go_enter Tryz.func11,Tryz.ntmps11
  go_upto_region 1 with fail
  rw [HW0.out]
  go_upto_region 4 with (first
   | (go_at_call 26;refine HEM.out.mono ?_;(rintro r w1 ⟨rfl,rfl⟩))
   | (go_at_call 27;refine HHD.out.mono ?_;(rintro r w2 ⟨rfl,hx2,ho2⟩);have HX2:=lH hx2;have HO2:=lH (HO0.out.trans ho2);have HR2:=lH (HR0.out.only ho2 HLT.out.2.2);clear hx2 ho2))
  have HF:=lH (RsI.fin (w:=w) (v:=.int .i64 0) HR2.out (Nat.le_refl _) (ob_nul _ _) HX2.out HO2.out HLT.out)
  obtain ⟨r0,r1,r2,r3,r4,r5,r6⟩:=RsI.cells HR2.out
  go_wp2_with fail
  refine bodyPost_ret (results_cell_row_tmp rfl _ _ w.heap.size 34 _ (0,0) _ rfl HF.out.row Tryz.underlying34 rfl (by kernel_rfl) _ rfl) rfl ?_
  exact ⟨_,_,_,_,_,rfl,HF.out.ob,HF.out.px,HF.out.on⟩
end
section
open Go.RowKit
set_option linter.unusedVariables false
set_option maxRecDepth 100000
def RimP (m:Nat) (A:Option Addr) (n c d:Nat) (zs:List Int) (w:World) (R:It13) (r:Ending) (w':World):Prop :=
 ∃ d0 d1 d2 d3 d4,r = .returned (.tuple #[.agg #[.int .i64 R.num,d0,d1,d2,d3,d4],.int .i64 R.r.e]) ∧ ObR w' (nwT w w') R.r.x d0 d1 d2 d3 d4 ∧ RX w' m A n c d zs R.r.q ∧ Only m w w'
structure FinJ (m:Nat) (A:Option Addr) (n c d:Nat) (zs:List Int) (w W:World) (b:Nat) (x:Ob) (q:Nat) (v d0 d1 d2 d3 d4:Value):Prop where
 row:(set6 W b v d0 d1 d2 d3 d4).heap[b]? = some (.cells #[v,d0,d1,d2,d3,d4] 34 (0,0))
 ob:ObR (set6 W b v d0 d1 d2 d3 d4) (nwT w (set6 W b v d0 d1 d2 d3 d4)) x d0 d1 d2 d3 d4
 px:RX (set6 W b v d0 d1 d2 d3 d4) m A n c d zs q
 on:Only m w (set6 W b v d0 d1 d2 d3 d4)
structure RiS (w W:World) (m:Nat) (A:Option Addr) (n c d:Nat) (zs:List Int) (q bo:Nat) (X:Ob) (t0 t1 t2 t3 t4:Value):Prop where
 px:RX W m A n c d zs q
 on:Only m w W
 rs:RsI w.heap.size W
 tb:W.heap[bo]? = some (.cells #[t0,t1,t2,t3,t4] 27 (0,0))
 ot:ObR W (fun y=>w.heap.size < y ∧ y ≠ bo ∧ y < W.heap.size) X t0 t1 t2 t3 t4
 lt:m < w.heap.size
 bb:w.heap.size < bo
section
variable {w W W':World} {m n c d q q' bo b:Nat} {A:Option Addr} {zs:List Int} {X Y:Ob} {v t0 t1 t2 t3 t4 d0 d1 d2 d3 d4:Value}
theorem RiS.only (s:RiS w W m A n c d zs q bo X t0 t1 t2 t3 t4) (hp:RX W' m A n c d zs q') (ho:Only m W W'):RiS w W' m A n c d zs q' bo X t0 t1 t2 t3 t4 :=
 have hm:=s.lt
 have hb:=s.bb
 ⟨hp,s.on.trans ho,s.rs.only ho s.lt,(ho.block _ (row_lt _ _ _ s.tb) (by omega)).trans s.tb,ObR.keep (fun y hy=>ho.block y hy.2.2 (by omega)) (fun y hy=>⟨hy.1,hy.2.1,Nat.lt_of_lt_of_le hy.2.2 ho.size⟩) _ s.ot,s.lt,s.bb⟩
theorem RiS.low (s:RiS w W m A n c d zs q bo X t0 t1 t2 t3 t4) (hb:Below W.heap.size W W'):RiS w W' m A n c d zs q bo X t0 t1 t2 t3 t4 :=
 s.only (s.px.low hb) (Only.of_below hb m)
theorem RiS.put (s:RiS w W m A n c d zs q bo X t0 t1 t2 t3 t4) (hp:RX W' m A n c d zs q') (ho:Only m W W') (hx:ObR W' (nwT W W') Y d0 d1 d2 d3 d4) :
  RiS w (((((W'.setCell ⟨bo,0,none⟩ d0).setCell ⟨bo,1,none⟩ d1).setCell ⟨bo,2,none⟩ d2).setCell ⟨bo,3,none⟩ d3).setCell ⟨bo,4,none⟩ d4) m A n c d zs q' bo Y d0 d1 d2 d3 d4 :=
 have hm:=s.lt
 have hb:=s.bb
 have hbw:=row_lt _ _ _ s.tb
 have hlt:=s.rs.lt
 ⟨hp.set5 (by omega),(s.on.trans ho).set5 (by omega),(heap_set5 (by omega)).trans (s.rs.only ho s.lt),set5_row ((ho.block _ hbw (by omega)).trans s.tb),ObR.keep (fun y hy=>heap_set5 (by have:=hy.1;omega)) (fun y hy=>⟨by have:=hy.1;omega,by have:=hy.1;omega,by rw [size_set5];exact hy.2⟩) _ hx,s.lt,s.bb⟩
theorem RiS.cells (s:RiS w W m A n c d zs q bo X t0 t1 t2 t3 t4):W.cell? ⟨bo,0,none⟩ = some t0 ∧ W.cell? ⟨bo,1,none⟩ = some t1 ∧ W.cell? ⟨bo,2,none⟩ = some t2 ∧ W.cell? ⟨bo,3,none⟩ = some t3 ∧ W.cell? ⟨bo,4,none⟩ = some t4 ∧ (∀ i,W.frozen? ⟨bo,i,none⟩ = false) :=
 ⟨by rw [cell_of_row W bo 0 _ _ (0,0) s.tb];rfl,by rw [cell_of_row W bo 1 _ _ (0,0) s.tb];rfl,by rw [cell_of_row W bo 2 _ _ (0,0) s.tb];rfl,by rw [cell_of_row W bo 3 _ _ (0,0) s.tb];rfl,by rw [cell_of_row W bo 4 _ _ (0,0) s.tb];rfl,fun i=>by have h:=s.tb;simp [World.frozen?,h]⟩
theorem RsI.finJ (r:RsI b W) (hwb:w.heap.size ≤ b) (hx:ObR W (fun y=>(w.heap.size ≤ y ∧ y ≠ b) ∧ y < W.heap.size) X d0 d1 d2 d3 d4) (hp:RX W m A n c d zs q) (ho:Only m w W) (hl:m < w.heap.size):FinJ m A n c d zs w W b X q v d0 d1 d2 d3 d4 :=
 have hm:m < b:=Nat.lt_of_lt_of_le hl hwb
 ⟨set6_row r,ObR.keep (fun y hy=>heap_set6 hy.1.2) (fun y hy=>⟨hy.1.1,by rw [size_set6'];exact hy.2⟩) X hx,
  (((((hp.set1 hm 0 v).set1 hm 1 d0).set1 hm 2 d1).set1 hm 3 d2).set1 hm 4 d3).set1 hm 5 d4,
  (((((ho.setN hwb 0 v).setN hwb 1 d0).setN hwb 2 d1).setN hwb 3 d2).setN hwb 4 d3).setN hwb 5 d4⟩
theorem RiS.nul (s:RiS w W m A n c d zs q bo X t0 t1 t2 t3 t4):FinJ m A n c d zs w W w.heap.size nulO q (.int .i64 0) (.int .i64 0) (.int .i64 0) (.slice none 0 0) (.slice none 0 0) (.slice none 0 0) :=
 s.rs.finJ (Nat.le_refl _) (ob_nul _ _) s.px s.on s.lt
theorem RiS.fin (s:RiS w W m A n c d zs q bo X t0 t1 t2 t3 t4) (v:Value):FinJ m A n c d zs w W w.heap.size X q v t0 t1 t2 t3 t4 :=
 s.rs.finJ (Nat.le_refl _) (ObR.keep (fun _ _=>rfl) (fun y hy=>⟨⟨Nat.le_of_lt hy.1,Nat.ne_of_gt hy.1⟩,hy.2.2⟩) _ s.ot) s.px s.on s.lt
end
theorem rkwC {w:World} {m n c d p:Nat} {A:Option Addr} {zs:List Int} (x:RX w m A n c d zs p) (s:ByteArray) (hs:s.size ≤ 900000) :
  Calls Tryz.prog 33 #[.pointer (some ⟨m,0,none⟩),.string s] w fun r w'=>r = .returned (.bool (kwB zs p s)) ∧ RX w' m A n c d zs (kwP zs p s) ∧ Only m w w' :=
 (rkeywordC m n c p m _ _ A zs s w x.ld x.bt (Nat.le_refl _) x.sm x.pl hs).mono fun _ _ ⟨he,hl,ho⟩=>⟨he,x.moved hl ho (by have:=kwP_le zs p s x.pz;rw [x.len] at this;exact this),ho⟩
set_option maxHeartbeats 8000000 in
theorem rItemC {w:World} {m n c d p:Nat} {A:Option Addr} {zs:List Int} (f:Nat) (x:RX w m A n c d zs p) (hd:d ≤ 28) (hf:n < f) :
  Calls Tryz.prog 13 #[.pointer (some ⟨m,0,none⟩)] w (RimP m A n c d zs w (itemT zs f d p)):=by
 have hx0:=x.alloc (.cells #[.int .i64 0,.int .i64 0,.int .i64 0,.slice none 0 0,.slice none 0 0,.slice none 0 0] 34)
 have ho0:=(Only.refl m w).alloc (.cells #[.int .i64 0,.int .i64 0,.int .i64 0,.slice none 0 0,.slice none 0 0,.slice none 0 0] 34)
 have hr0:=RsI.new w
 obtain ⟨W0,hW0⟩:∃ W0,w.alloc (.cells #[.int .i64 0,.int .i64 0,.int .i64 0,.slice none 0 0,.slice none 0 0,.slice none 0 0] 34) = W0:=⟨_,rfl⟩
 rw [hW0] at hx0 ho0 hr0
 have HN1:=lH (rWholeC hx0 1 8388607)
 have HMW:=lH x.lt
 have HO0:=lH ho0
 have HR0:=lH hr0
 have HW0:=lH hW0
 have hsm:=x.sm
 have hzl:=x.len
 unfold itemT headT
 obtain ⟨R1,hR1⟩:∃ R1,numT zs p 1 8388607 = R1:=⟨_,rfl⟩
 rw [hR1] at HN1 ⊢
 obtain ⟨V1,E1,Q1⟩:=R1
 dsimp only at HN1 ⊢
 have HN2:=lH (fun W (hW:RX W m A n c d zs Q1)=>rWholeC hW 0 0)
 obtain ⟨R2,hR2⟩:∃ R2,numT zs Q1 0 0 = R2:=⟨_,rfl⟩
 simp only [hR2] at HN2 ⊢
 obtain ⟨V2,E2,Q2⟩:=R2
 dsimp only at HN2 ⊢
 have HN3:=lH (fun W (hW:RX W m A n c d zs Q2)=>rWantC hW strObj)
 obtain ⟨R3,hR3⟩:∃ R3,wrdT zs Q2 strObj = R3:=⟨_,rfl⟩
 simp only [hR3] at HN3 ⊢
 obtain ⟨E3,Q3⟩:=R3
 dsimp only at HN3 ⊢
 have hq3:Q3 ≤ zs.length:=by
  have a1:=numT_le zs p 1 8388607 x.pz
  rw [hR1] at a1
  have a2:=numT_le zs Q1 0 0 a1
  rw [hR2] at a2
  have a3:=wrdT_le zs Q2 strObj a2
  rw [hR3] at a3
  exact a3
 clear hx0 ho0 hr0 hW0 x hR1 hR2 hR3
 by_cases h1:E1 = 0
 ·subst h1
  by_cases h2:E2 = 0
  ·subst h2
   by_cases h3:E3 = 0
   ·subst h3
    simp only [ne_eq,not_true_eq_false,if_false]
    have hg:=parF_g zs f .val d Q3 hq3 trivial
    have hk:=parF_ok zs (by omega) f .val d Q3 hq3 trivial
    have HVL:=lH (fun W (hW:RX W m A n c d zs Q3)=>rValueC f hW hd (by omega))
    obtain ⟨RV,hRV⟩:∃ RV,parF zs f .val d Q3 = RV:=⟨_,rfl⟩
    rw [hRV] at hg hk HVL ⊢
    obtain ⟨E4,X4,Q4⟩:=RV
    obtain ⟨RR,hRR⟩:∃ RR,finT zs V1 (bodyT zs ⟨E4,X4,Q4⟩) = RR:=⟨_,rfl⟩
    have hgo:(if ¬ (bodyT zs ⟨E4,X4,Q4⟩).e = 0 then (⟨0,noR (bodyT zs ⟨E4,X4,Q4⟩).e (bodyT zs ⟨E4,X4,Q4⟩).q⟩:It13) else if ¬ (wrdT zs (bodyT zs ⟨E4,X4,Q4⟩).q strEnO).1 = 0 then ⟨0,noR (wrdT zs (bodyT zs ⟨E4,X4,Q4⟩).q strEnO).1 (wrdT zs (bodyT zs ⟨E4,X4,Q4⟩).q strEnO).2⟩ else ⟨V1,⟨0,(bodyT zs ⟨E4,X4,Q4⟩).x,(wrdT zs (bodyT zs ⟨E4,X4,Q4⟩).q strEnO).2⟩⟩) = RR:=hRR
    rw [hgo]
    have HRR:=lH hRR
    have HKW:=lH (fun W (hW:RX W m A n c d zs Q4)=>rkwC hW strStm (by decide))
    have HWN:=lH (fun Q W (hW:RX W m A n c d zs Q)=>rWantC hW strEnO)
    have HES:=lH (fun Q W (hW:RX W m A n c d zs Q)=>rWantC hW strEnS)
    have HGG:=lH (And.intro hg hk)
    clear hRV hRR hgo hg hk
    go_enter Tryz.func13,Tryz.ntmps13
    go_upto_region 1 with fail
    rw [HW0.out]
    go_upto_region 3 with (first
     | (go_at_call 30;refine HN1.out.mono ?_;(rintro r w1 ⟨rfl,hx1,ho1⟩);have HX1:=lH hx1;have HO1:=lH (HO0.out.trans ho1);have HR1:=lH (HR0.out.only ho1 HMW.out);clear hx1 ho1))
    go_upto_region 5 with (first
     | (go_at_call 30;refine (HN2.out _ HX1.out).mono ?_;(rintro r w2 ⟨rfl,hx2,ho2⟩);have HX2:=lH hx2;have HO2:=lH (HO1.out.trans ho2);have HR2:=lH (HR1.out.only ho2 HMW.out);clear hx2 ho2))
    go_upto_region 7 with (first
     | (go_at_call 31;refine (HN3.out _ HX2.out).mono ?_;(rintro r w3 ⟨rfl,hx3,ho3⟩);have HXH:=lH hx3;have HOH:=lH (HO2.out.trans ho3);have HRH:=lH (HR2.out.only ho3 HMW.out);clear hx3 ho3))
    have hb6:=(Below.refl (World.heap w3).size w3).alloc (Nat.le_refl _) (.cells #[.int .i64 0,.int .i64 0,.slice none 0 0,.slice none 0 0,.slice none 0 0] 27)
    have hn6:=heap_alloc_new w3 (.cells #[.int .i64 0,.int .i64 0,.slice none 0 0,.slice none 0 0,.slice none 0 0] 27)
    obtain ⟨w6,hw6⟩:∃ w6,(w3).alloc (.cells #[.int .i64 0,.int .i64 0,.slice none 0 0,.slice none 0 0,.slice none 0 0] 27) = w6:=⟨_,rfl⟩
    rw [hw6] at hb6 hn6
    rw [hw6]
    have hs6:RiS w w6 m A n c d zs _ (World.heap w3).size nulO (.int .i64 0) (.int .i64 0) (.slice none 0 0) (.slice none 0 0) (.slice none 0 0):=⟨HXH.out.low hb6,HOH.out.trans (Only.of_below hb6 m),HRH.out.low hb6,hn6,ob_nul _ _,HMW.out,HRH.out.lt⟩
    obtain ⟨bo,hbo⟩:∃ bo,(World.heap w3).size = bo:=⟨_,rfl⟩
    rw [hbo] at hs6
    rw [hbo]
    have HS:=lH hs6
    clear hb6 hn6 hw6 hs6 hbo
    obtain ⟨z0,z1,z2,z3,z4,z5⟩:=HS.out.cells
    go_upto_region 9 with (first
     | (go_at_call 32;refine (HVL.out _ HS.out.px).mono ?_;(rintro r w5 ⟨d0,d1,d2,d3,d4,hrr,hob,hx5,ho5⟩);(try dsimp only at hrr hob hx5);subst hrr;obtain ⟨k5,n5,A5,m5,e5,A6,m6,e6,A7,m7,e7,rfl,rfl,rfl,rfl,rfl⟩:=hob.shp;have HKC:=lH (kind_c0 hob);have hsp:=HS.out.put hx5 ho5 hob;(obtain ⟨n0,n1,n2,n3,n4,n5'⟩:=(HS.out.only hx5 ho5).cells);clear hob hx5 ho5))
    have hkk:k5 = X4.kind:=by have hkc:=HKC.out;injection hkc
    obtain ⟨w9,hw9⟩:∃ w9,((((w5.setCell ⟨bo,0,none⟩ (.int .i64 k5)).setCell ⟨bo,1,none⟩ (.int .i64 n5)).setCell ⟨bo,2,none⟩ (.slice A5 m5 e5)).setCell ⟨bo,3,none⟩ (.slice A6 m6 e6)).setCell ⟨bo,4,none⟩ (.slice A7 m7 e7) = w9:=⟨_,rfl⟩
    rw [hw9] at hsp
    rw [hw9]
    clear HS z0 z1 z2 z3 z4 z5 n0 n1 n2 n3 n4 n5' HKC hw9 HN1 HN2 HN3 HX1 HX2 HO1 HO2 HR1 HR2 HXH HOH HRH HO0 HR0 HW0 HVL
    have HS:=lH hsp
    clear hsp
    obtain ⟨n0,n1,n2,n3,n4,nf⟩:=HS.out.cells
    by_cases h4:E4 = 0
    ·subst h4
     by_cases hk7:X4.kind = 7
     ·obtain ⟨kx,nx,bx,lx,dx⟩:=X4
      have hkx:kx = 7:=hk7
      subst hkx
      have hk5:k5 = 7:=hkk
      subst hk5
      by_cases hkw:kwB zs Q4 strStm = true
      ·have hok:=HGG.out.2
       have hdl:dx.len ≤ 90000000:=by
        have:=(g_parts HGG.out.1).2.2.2.2.1
        omega
       have hb:=body_yes zs ⟨0,.mk 7 nx bx lx dx,Q4⟩ (by unfold stmB;rw [hkw];rfl)
       have hkk2:=HKW.out
       rw [hkw] at hkk2
       obtain ⟨K,hK⟩:∃ K,kwP zs Q4 strStm = K:=⟨_,rfl⟩
       rw [hK] at hkk2
       have hb:bodyT zs ⟨0,.mk 7 nx bx lx dx,Q4⟩ = rstT zs (rdaT zs K (.mk 7 nx bx lx dx)):=by rw [hb];simp only [hK]
       have HKT:=lH hkk2
       have hdt:=fun W t0 t1 t2 t3 t4 (s:RiS w W m A n c d zs K bo (.mk 7 nx bx lx dx) t0 t1 t2 t3 t4)=>rdataC s.px nx bx lx dx _ t0 t1 t2 t3 t4 s.ot (fun y hy=>⟨hy.2.2,by have:=s.lt;omega⟩) hok hdl
       obtain ⟨RD,hRD⟩:∃ RD,rdaT zs K (.mk 7 nx bx lx dx) = RD:=⟨_,rfl⟩
       rw [hRD] at hdt hb
       obtain ⟨ED,XD,QD⟩:=RD
       have hrr:=HRR.out
       rw [hb] at hrr
       unfold rstT finT at hrr
       dsimp only at hrr
       have HRR2:=lH hrr
       have HDT:=lH hdt
       clear hok hdl hb hkk2 hK hdt hRD hrr HRR HKW HGG hkw hkk hk7
       go_upto_region 10 with (first
        | (go_at_call 33;refine (HKT.out _ HS.out.px).mono ?_;(rintro r wK ⟨rfl,hxK,hoK⟩);have hsK:=HS.out.only hxK hoK;clear HS;have HS:=lH hsK;clear hsK hxK hoK))
       clear n0 n1 n2 n3 n4 nf
       obtain ⟨n0,n1,n2,n3,n4,nf⟩:=HS.out.cells
       go_upto_region 11 with (first
        | (go_at_call 34;refine (HDT.out _ _ _ _ _ _ HS.out).mono ?_;(rintro r wL ⟨g0,g1,g2,g3,g4,hrr,hob,hxL,hoL⟩);(try dsimp only at hrr hob hxL);subst hrr;obtain ⟨kL,nL,AL,mL,eL,BL,lL,fL,CL,oL,hL,rfl,rfl,rfl,rfl,rfl⟩:=hob.shp;have hsp:=HS.out.put hxL hoL hob;clear n0 n1 n2 n3 n4 nf;(obtain ⟨n0,n1,n2,n3,n4,nf⟩:=(HS.out.only hxL hoL).cells);clear hob hxL hoL))
       obtain ⟨wM,hwM⟩:∃ wM,((((wL.setCell ⟨bo,0,none⟩ (.int .i64 kL)).setCell ⟨bo,1,none⟩ (.int .i64 nL)).setCell ⟨bo,2,none⟩ (.slice AL mL eL)).setCell ⟨bo,3,none⟩ (.slice BL lL fL)).setCell ⟨bo,4,none⟩ (.slice CL oL hL) = wM:=⟨_,rfl⟩
       rw [hwM] at hsp
       rw [hwM]
       clear HS n0 n1 n2 n3 n4 nf hwM HDT HKT
       have HS:=lH hsp
       clear hsp
       by_cases hED:ED = 0
       ·subst hED
        obtain ⟨W6,hW6⟩:∃ W6,wrdT zs QD strEnS = W6:=⟨_,rfl⟩
        have hw6:=HES.out QD
        have hrr:=HRR2.out
        rw [hW6] at hw6
        rw [hW6] at hrr
        obtain ⟨E6,Q6⟩:=W6
        dsimp only at hrr hw6
        have HW6:=lH hw6
        have HRR3:=lH hrr
        clear hW6 hw6 hrr
        go_upto_region 13 with (first
         | (go_at_call 31;refine (HW6.out _ HS.out.px).mono ?_;(rintro r wF ⟨rfl,hxF,hoF⟩);have hsF:=HS.out.only hxF hoF;clear HS;have HS:=lH hsF;clear hsF hxF hoF))
        by_cases h6:E6 = 0
        ·subst h6
         have hrr:=HRR3.out
         simp only [ne_eq,not_true_eq_false,if_false] at hrr
         obtain ⟨W8,hW8⟩:∃ W8,wrdT zs Q6 strEnO = W8:=⟨_,rfl⟩
         have hw8:=HWN.out Q6
         rw [hW8] at hw8
         rw [hW8] at hrr
         obtain ⟨E8,Q8⟩:=W8
         dsimp only at hrr hw8
         have HW8:=lH hw8
         clear hW8 hw8
         go_upto_region 15 with (first
          | (go_at_call 31;refine (HW8.out _ HS.out.px).mono ?_;(rintro r wF ⟨rfl,hxF,hoF⟩);have hsF:=HS.out.only hxF hoF;clear HS;have HS:=lH hsF;clear hsF hxF hoF))
         by_cases h8:E8 = 0
         ·subst h8
          simp only [not_true_eq_false,if_false] at hrr
          subst hrr
          have HF:=lH (RiS.fin HS.out (.int .i64 V1))
          obtain ⟨n0,n1,n2,n3,n4,nf⟩:=HS.out.cells
          obtain ⟨r0,r1,r2,r3,r4,r5,r6⟩:=RsI.cells HS.out.rs
          go_wp2_with fail
          refine bodyPost_ret (results_cell_row_tmp rfl _ _ w.heap.size 34 _ (0,0) _ rfl HF.out.row Tryz.underlying34 rfl (by kernel_rfl) _ rfl) rfl ?_
          exact ⟨_,_,_,_,_,rfl,HF.out.ob,HF.out.px,HF.out.on⟩
         ·rw [if_pos h8] at hrr
          subst hrr
          have e8n:(E8 != 0) = true:=by rw [bne,beq_eq_false_iff_ne.2 h8];rfl
          clear h8
          have HF:=lH (RiS.nul HS.out)
          obtain ⟨r0,r1,r2,r3,r4,r5,r6⟩:=RsI.cells HS.out.rs
          go_wp2_with fail
          refine bodyPost_ret (results_cell_row_tmp rfl _ _ w.heap.size 34 _ (0,0) _ rfl HF.out.row Tryz.underlying34 rfl (by kernel_rfl) _ rfl) rfl ?_
          exact ⟨_,_,_,_,_,rfl,HF.out.ob,HF.out.px,HF.out.on⟩
        ·have hrr:RR = ⟨0,noR E6 Q6⟩:=by
          have hrr:=HRR3.out
          simp only [ne_eq,not_true_eq_false,if_false,h6,not_false_eq_true,if_true,noR] at hrr
          rw [← hrr];rfl
         subst hrr
         have e6:(E6 == 0) = false:=beq_eq_false_iff_ne.2 h6
         have e6n:(E6 != 0) = true:=by rw [bne,e6];rfl
         clear h6
         have HF:=lH (RiS.nul HS.out)
         obtain ⟨r0,r1,r2,r3,r4,r5,r6⟩:=RsI.cells HS.out.rs
         go_wp2_with fail
         refine bodyPost_ret (results_cell_row_tmp rfl _ _ w.heap.size 34 _ (0,0) _ rfl HF.out.row Tryz.underlying34 rfl (by kernel_rfl) _ rfl) rfl ?_
         exact ⟨_,_,_,_,_,rfl,HF.out.ob,HF.out.px,HF.out.on⟩
       ·have hrr:RR = ⟨0,noR ED QD⟩:=by
         have hrr:=HRR2.out
         simp only [ne_eq,hED,not_false_eq_true,if_true,noR] at hrr
         rw [← hrr];rfl
        subst hrr
        have e6:(ED == 0) = false:=beq_eq_false_iff_ne.2 hED
        have e6n:(ED != 0) = true:=by rw [bne,e6];rfl
        clear hED
        have HF:=lH (RiS.nul HS.out)
        obtain ⟨r0,r1,r2,r3,r4,r5,r6⟩:=RsI.cells HS.out.rs
        go_wp2_with fail
        refine bodyPost_ret (results_cell_row_tmp rfl _ _ w.heap.size 34 _ (0,0) _ rfl HF.out.row Tryz.underlying34 rfl (by kernel_rfl) _ rfl) rfl ?_
        exact ⟨_,_,_,_,_,rfl,HF.out.ob,HF.out.px,HF.out.on⟩
      ·have hkw:kwB zs Q4 strStm = false:=by simpa using hkw
       have hb:bodyT zs ⟨0,.mk 7 nx bx lx dx,Q4⟩ = ⟨0,.mk 7 nx bx lx dx,Q4⟩:=body_no zs _ (by unfold stmB;rw [hkw];simp)
       have hkp:kwP zs Q4 strStm = Q4:=by unfold kwP;rw [if_neg (by rw [hkw];decide)]
       have hkk2:=HKW.out
       rw [hkw,hkp] at hkk2
       have HKT:=lH hkk2
       have hrr:=HRR.out
       rw [hb] at hrr
       unfold finT at hrr
       obtain ⟨W8,hW8⟩:∃ W8,wrdT zs Q4 strEnO = W8:=⟨_,rfl⟩
       have hw8:=HWN.out Q4
       rw [hW8] at hw8
       dsimp only at hrr
       rw [hW8] at hrr
       obtain ⟨E8,Q8⟩:=W8
       dsimp only at hrr hw8
       have HW8:=lH hw8
       clear hW8 hw8 hb hkp hkk2 hkw HKW hkk hk7
       go_upto_region 15 with (first
        | (go_at_call 33;refine (HKT.out _ HS.out.px).mono ?_;(rintro r wK ⟨rfl,hxK,hoK⟩);have hsK:=HS.out.only hxK hoK;clear HS;have HS:=lH hsK;clear hsK hxK hoK)
        | (go_at_call 31;refine (HW8.out _ HS.out.px).mono ?_;(rintro r wF ⟨rfl,hxF,hoF⟩);have hsF:=HS.out.only hxF hoF;clear HS;have HS:=lH hsF;clear hsF hxF hoF))
       clear n0 n1 n2 n3 n4 nf
       by_cases h8:E8 = 0
       ·subst h8
        rw [if_neg (fun h=>h rfl),if_neg (fun h=>h rfl)] at hrr
        subst hrr
        have HF:=lH (RiS.fin HS.out (.int .i64 V1))
        obtain ⟨n0,n1,n2,n3,n4,nf⟩:=HS.out.cells
        obtain ⟨r0,r1,r2,r3,r4,r5,r6⟩:=RsI.cells HS.out.rs
        go_wp2_with fail
        refine bodyPost_ret (results_cell_row_tmp rfl _ _ w.heap.size 34 _ (0,0) _ rfl HF.out.row Tryz.underlying34 rfl (by kernel_rfl) _ rfl) rfl ?_
        exact ⟨_,_,_,_,_,rfl,HF.out.ob,HF.out.px,HF.out.on⟩
       ·rw [if_neg (fun h=>h rfl),if_pos h8] at hrr
        subst hrr
        have e8n:(E8 != 0) = true:=by rw [bne,beq_eq_false_iff_ne.2 h8];rfl
        clear h8
        have HF:=lH (RiS.nul HS.out)
        obtain ⟨r0,r1,r2,r3,r4,r5,r6⟩:=RsI.cells HS.out.rs
        go_wp2_with fail
        refine bodyPost_ret (results_cell_row_tmp rfl _ _ w.heap.size 34 _ (0,0) _ rfl HF.out.row Tryz.underlying34 rfl (by kernel_rfl) _ rfl) rfl ?_
        exact ⟨_,_,_,_,_,rfl,HF.out.ob,HF.out.px,HF.out.on⟩
     ·have hb:bodyT zs ⟨0,X4,Q4⟩ = ⟨0,X4,Q4⟩:=body_no zs _ (by unfold stmB;simp only [decide_eq_false hk7];simp)
      have hrr:=HRR.out
      rw [hb] at hrr
      unfold finT at hrr
      have e7:(k5 == 7) = false:=beq_eq_false_iff_ne.2 (by rw [hkk];exact hk7)
      clear hb hkk hk7
      obtain ⟨W8,hW8⟩:∃ W8,wrdT zs Q4 strEnO = W8:=⟨_,rfl⟩
      have hw8:=HWN.out Q4
      rw [hW8] at hw8
      dsimp only at hrr
      rw [hW8] at hrr
      obtain ⟨E8,Q8⟩:=W8
      dsimp only at hrr hw8
      have HW8:=lH hw8
      clear hW8 hw8
      go_upto_region 15 with (first
       | (go_at_call 31;refine (HW8.out _ HS.out.px).mono ?_;(rintro r wF ⟨rfl,hxF,hoF⟩);have hsF:=HS.out.only hxF hoF;clear HS;have HS:=lH hsF;clear hsF hxF hoF))
      clear n0 n1 n2 n3 n4 nf e7
      by_cases h8:E8 = 0
      ·subst h8
       rw [if_neg (fun h=>h rfl),if_neg (fun h=>h rfl)] at hrr
       subst hrr
       have HF:=lH (RiS.fin HS.out (.int .i64 V1))
       obtain ⟨n0,n1,n2,n3,n4,nf⟩:=HS.out.cells
       obtain ⟨r0,r1,r2,r3,r4,r5,r6⟩:=RsI.cells HS.out.rs
       go_wp2_with fail
       refine bodyPost_ret (results_cell_row_tmp rfl _ _ w.heap.size 34 _ (0,0) _ rfl HF.out.row Tryz.underlying34 rfl (by kernel_rfl) _ rfl) rfl ?_
       exact ⟨_,_,_,_,_,rfl,HF.out.ob,HF.out.px,HF.out.on⟩
      ·rw [if_neg (fun h=>h rfl),if_pos h8] at hrr
       subst hrr
       have e8n:(E8 != 0) = true:=by rw [bne,beq_eq_false_iff_ne.2 h8];rfl
       clear h8
       have HF:=lH (RiS.nul HS.out)
       obtain ⟨r0,r1,r2,r3,r4,r5,r6⟩:=RsI.cells HS.out.rs
       go_wp2_with fail
       refine bodyPost_ret (results_cell_row_tmp rfl _ _ w.heap.size 34 _ (0,0) _ rfl HF.out.row Tryz.underlying34 rfl (by kernel_rfl) _ rfl) rfl ?_
       exact ⟨_,_,_,_,_,rfl,HF.out.ob,HF.out.px,HF.out.on⟩
    ·have hb:bodyT zs ⟨E4,X4,Q4⟩ = ⟨E4,X4,Q4⟩:=body_no zs _ (by unfold stmB;rw [decide_eq_false h4];rfl)
     have hrr:RR = ⟨0,noR E4 Q4⟩:=by rw [← HRR.out,hb];exact if_pos h4
     subst hrr
     have e4:(E4 == 0) = false:=beq_eq_false_iff_ne.2 h4
     have e4n:(E4 != 0) = true:=by rw [bne,e4];rfl
     clear h4 hb
     have HF:=lH (RiS.nul HS.out)
     obtain ⟨r0,r1,r2,r3,r4,r5,r6⟩:=RsI.cells HS.out.rs
     go_wp2_with fail
     refine bodyPost_ret (results_cell_row_tmp rfl _ _ w.heap.size 34 _ (0,0) _ rfl HF.out.row Tryz.underlying34 rfl (by kernel_rfl) _ rfl) rfl ?_
     exact ⟨_,_,_,_,_,rfl,HF.out.ob,HF.out.px,HF.out.on⟩
   ·have e3:(E3 == 0) = false:=beq_eq_false_iff_ne.2 h3
    have e3n:(E3 != 0) = true:=by rw [bne,e3];rfl
    simp only [ne_eq,not_true_eq_false,if_false,h3,not_false_eq_true,if_true]
    clear h3
    go_enter Tryz.func13,Tryz.ntmps13
    go_upto_region 1 with fail
    rw [HW0.out]
    go_upto_region 3 with (first
     | (go_at_call 30;refine HN1.out.mono ?_;(rintro r w1 ⟨rfl,hx1,ho1⟩);have HX1:=lH hx1;have HO1:=lH (HO0.out.trans ho1);have HR1:=lH (HR0.out.only ho1 HMW.out);clear hx1 ho1))
    go_upto_region 5 with (first
     | (go_at_call 30;refine (HN2.out _ HX1.out).mono ?_;(rintro r w2 ⟨rfl,hx2,ho2⟩);have HX2:=lH hx2;have HO2:=lH (HO1.out.trans ho2);have HR2:=lH (HR1.out.only ho2 HMW.out);clear hx2 ho2))
    go_upto_region 7 with (first
     | (go_at_call 31;refine (HN3.out _ HX2.out).mono ?_;(rintro r w3 ⟨rfl,hx3,ho3⟩);have HXH:=lH hx3;have HOH:=lH (HO2.out.trans ho3);have HRH:=lH (HR2.out.only ho3 HMW.out);clear hx3 ho3))
    have hb6:=(Below.refl (World.heap w3).size w3).alloc (Nat.le_refl _) (.cells #[.int .i64 0,.int .i64 0,.slice none 0 0,.slice none 0 0,.slice none 0 0] 27)
    have hn6:=heap_alloc_new w3 (.cells #[.int .i64 0,.int .i64 0,.slice none 0 0,.slice none 0 0,.slice none 0 0] 27)
    obtain ⟨w6,hw6⟩:∃ w6,(w3).alloc (.cells #[.int .i64 0,.int .i64 0,.slice none 0 0,.slice none 0 0,.slice none 0 0] 27) = w6:=⟨_,rfl⟩
    rw [hw6] at hb6 hn6
    rw [hw6]
    have hs6:RiS w w6 m A n c d zs _ (World.heap w3).size nulO (.int .i64 0) (.int .i64 0) (.slice none 0 0) (.slice none 0 0) (.slice none 0 0):=⟨HXH.out.low hb6,HOH.out.trans (Only.of_below hb6 m),HRH.out.low hb6,hn6,ob_nul _ _,HMW.out,HRH.out.lt⟩
    obtain ⟨bo,hbo⟩:∃ bo,(World.heap w3).size = bo:=⟨_,rfl⟩
    rw [hbo] at hs6
    rw [hbo]
    have HS:=lH hs6
    clear hb6 hn6 hw6 hs6 hbo
    have HF:=lH (RiS.nul HS.out)
    obtain ⟨r0,r1,r2,r3,r4,r5,r6⟩:=RsI.cells HS.out.rs
    go_wp2_with fail
    refine bodyPost_ret (results_cell_row_tmp rfl _ _ w.heap.size 34 _ (0,0) _ rfl HF.out.row Tryz.underlying34 rfl (by kernel_rfl) _ rfl) rfl ?_
    exact ⟨_,_,_,_,_,rfl,HF.out.ob,HF.out.px,HF.out.on⟩
  ·have e2:(E2 == 0) = false:=beq_eq_false_iff_ne.2 h2
   have e2n:(E2 != 0) = true:=by rw [bne,e2];rfl
   simp only [ne_eq,not_true_eq_false,if_false,h2,not_false_eq_true,if_true]
   clear h2
   go_enter Tryz.func13,Tryz.ntmps13
   go_upto_region 1 with fail
   rw [HW0.out]
   go_upto_region 3 with (first
    | (go_at_call 30;refine HN1.out.mono ?_;(rintro r w1 ⟨rfl,hx1,ho1⟩);have HX1:=lH hx1;have HO1:=lH (HO0.out.trans ho1);have HR1:=lH (HR0.out.only ho1 HMW.out);clear hx1 ho1))
   go_upto_region 7 with (first
    | (go_at_call 30;refine (HN2.out _ HX1.out).mono ?_;(rintro r w2 ⟨rfl,hx2,ho2⟩);have HXH:=lH hx2;have HOH:=lH (HO1.out.trans ho2);have HRH:=lH (HR1.out.only ho2 HMW.out);clear hx2 ho2))
   have hb6:=(Below.refl (World.heap w2).size w2).alloc (Nat.le_refl _) (.cells #[.int .i64 0,.int .i64 0,.slice none 0 0,.slice none 0 0,.slice none 0 0] 27)
   have hn6:=heap_alloc_new w2 (.cells #[.int .i64 0,.int .i64 0,.slice none 0 0,.slice none 0 0,.slice none 0 0] 27)
   obtain ⟨w6,hw6⟩:∃ w6,(w2).alloc (.cells #[.int .i64 0,.int .i64 0,.slice none 0 0,.slice none 0 0,.slice none 0 0] 27) = w6:=⟨_,rfl⟩
   rw [hw6] at hb6 hn6
   rw [hw6]
   have hs6:RiS w w6 m A n c d zs _ (World.heap w2).size nulO (.int .i64 0) (.int .i64 0) (.slice none 0 0) (.slice none 0 0) (.slice none 0 0):=⟨HXH.out.low hb6,HOH.out.trans (Only.of_below hb6 m),HRH.out.low hb6,hn6,ob_nul _ _,HMW.out,HRH.out.lt⟩
   obtain ⟨bo,hbo⟩:∃ bo,(World.heap w2).size = bo:=⟨_,rfl⟩
   rw [hbo] at hs6
   rw [hbo]
   have HS:=lH hs6
   clear hb6 hn6 hw6 hs6 hbo
   have HF:=lH (RiS.nul HS.out)
   obtain ⟨r0,r1,r2,r3,r4,r5,r6⟩:=RsI.cells HS.out.rs
   go_wp2_with fail
   refine bodyPost_ret (results_cell_row_tmp rfl _ _ w.heap.size 34 _ (0,0) _ rfl HF.out.row Tryz.underlying34 rfl (by kernel_rfl) _ rfl) rfl ?_
   exact ⟨_,_,_,_,_,rfl,HF.out.ob,HF.out.px,HF.out.on⟩
 ·have e1:(E1 == 0) = false:=beq_eq_false_iff_ne.2 h1
  have e1n:(E1 != 0) = true:=by rw [bne,e1];rfl
  simp only [ne_eq,h1,not_false_eq_true,if_true]
  clear h1
  go_enter Tryz.func13,Tryz.ntmps13
  go_upto_region 1 with fail
  rw [HW0.out]
  go_upto_region 7 with (first
   | (go_at_call 30;refine HN1.out.mono ?_;(rintro r w1 ⟨rfl,hx1,ho1⟩);have HXH:=lH hx1;have HOH:=lH (HO0.out.trans ho1);have HRH:=lH (HR0.out.only ho1 HMW.out);clear hx1 ho1))
  have hb6:=(Below.refl (World.heap w1).size w1).alloc (Nat.le_refl _) (.cells #[.int .i64 0,.int .i64 0,.slice none 0 0,.slice none 0 0,.slice none 0 0] 27)
  have hn6:=heap_alloc_new w1 (.cells #[.int .i64 0,.int .i64 0,.slice none 0 0,.slice none 0 0,.slice none 0 0] 27)
  obtain ⟨w6,hw6⟩:∃ w6,(w1).alloc (.cells #[.int .i64 0,.int .i64 0,.slice none 0 0,.slice none 0 0,.slice none 0 0] 27) = w6:=⟨_,rfl⟩
  rw [hw6] at hb6 hn6
  rw [hw6]
  have hs6:RiS w w6 m A n c d zs _ (World.heap w1).size nulO (.int .i64 0) (.int .i64 0) (.slice none 0 0) (.slice none 0 0) (.slice none 0 0):=⟨HXH.out.low hb6,HOH.out.trans (Only.of_below hb6 m),HRH.out.low hb6,hn6,ob_nul _ _,HMW.out,HRH.out.lt⟩
  obtain ⟨bo,hbo⟩:∃ bo,(World.heap w1).size = bo:=⟨_,rfl⟩
  rw [hbo] at hs6
  rw [hbo]
  have HS:=lH hs6
  clear hb6 hn6 hw6 hs6 hbo
  have HF:=lH (RiS.nul HS.out)
  obtain ⟨r0,r1,r2,r3,r4,r5,r6⟩:=RsI.cells HS.out.rs
  go_wp2_with fail
  refine bodyPost_ret (results_cell_row_tmp rfl _ _ w.heap.size 34 _ (0,0) _ rfl HF.out.row Tryz.underlying34 rfl (by kernel_rfl) _ rfl) rfl ?_
  exact ⟨_,_,_,_,_,rfl,HF.out.ob,HF.out.px,HF.out.on⟩
end
section
open Go.RowKit
set_option linter.unusedVariables false
set_option maxRecDepth 100000
structure QV (w W:World) (m h g mr:Nat) (A:Option Addr) (n c d:Nat) (zs:List Int) (p:Nat):Prop where
 px:PX W m h g A n c d zs p
 rx:RX W mr A n c d zs p
 lo:w.heap.size ≤ g
 gm:g < mr
 mm:m < mr
 hm:h < mr
 bl:Below w.heap.size w W
section
variable {w W W':World} {m h g mr n c d p q:Nat} {A:Option Addr} {zs:List Int}
theorem QV.lg (x:QV w W m h g mr A n c d zs p):w.heap.size ≤ mr:=Nat.le_trans x.lo (Nat.le_of_lt x.gm)
theorem QV.low (x:QV w W m h g mr A n c d zs p) (hb:Below W.heap.size W W'):QV w W' m h g mr A n c d zs p :=
 ⟨x.px.low hb,x.rx.low hb,x.lo,x.gm,x.mm,x.hm,x.bl.trans (hb.mono x.bl.size)⟩
theorem QV.moveP (x:QV w W m h g mr A n c d zs p) (hp:PX W' m h g A n c d zs q) (ho:Only g W W'):RX W' mr A n c d zs p ∧ Below w.heap.size w W' :=
 ⟨⟨x.rx.ld.keep (ho.block mr x.rx.lt (Nat.ne_of_gt x.gm)),hp.bt.more (Nat.le_of_lt x.gm),x.rx.pl,x.rx.sm⟩,x.bl.trans (ho.belowB x.lo (Nat.le_of_lt x.px.lx.cu.lt))⟩
end
theorem box_keep {W W':World} {b g:Nat} {l:List Value} {T:TypeId} (h:W.heap[b]? = some (.cells l.toArray T (0,0))) (ho:Only g W W') (hg:b ≠ g):W'.heap[b]? = some (.cells l.toArray T (0,0)):=(ho.block b (row_lt _ _ _ h) hg).trans h
end
end Go.Proofs.YtpomkhcobpihmaaGreat
