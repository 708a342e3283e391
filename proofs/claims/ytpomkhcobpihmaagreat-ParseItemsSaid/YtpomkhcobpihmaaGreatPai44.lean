/- Contracts of functions that the law calls, and what they lean on (a part). -/
import Derived.Test.YtpomkhcobpihmaaGreatPai41
namespace Go.Proofs.YtpomkhcobpihmaaGreat
section
open Go.RowKit
set_option linter.unusedVariables false
set_option maxRecDepth 100000
theorem box_keep5 {W W':World} {b g:Nat} {cs:Array Value} {T:TypeId} (h:W.heap[b]? = some (.cells cs T (0,0))) (ho:Only g W W') (hg:b ≠ g):W'.heap[b]? = some (.cells cs T (0,0)):=(ho.block b (row_lt _ _ _ h) hg).trans h
def strEnS:ByteArray:=⟨#[101,110,100,115,116,114,101,97,109]⟩
def dataT (zs:List Int) (p:Nat) (k v:Int):Int × List Int × Nat :=
 if (lineT zs p).1 ≠ 0 then ((lineT zs p).1,[],(lineT zs p).2)
 else if k ≠ 2 ∨ v < 0 then (4,[],(lineT zs p).2)
 else if (zs.length:Int) - (lineT zs p).2 < v then (2,[],(lineT zs p).2)
 else if (wrdT zs ((lineT zs p).2 + v.toNat) strEnS).1 ≠ 0 then ((wrdT zs ((lineT zs p).2 + v.toNat) strEnS).1,[],(wrdT zs ((lineT zs p).2 + v.toNat) strEnS).2)
 else (0,(zs.drop (lineT zs p).2).take v.toNat,(wrdT zs ((lineT zs p).2 + v.toNat) strEnS).2)
def DtP (m h g:Nat) (A:Option Addr) (n c d:Nat) (zs:List Int) (w:World) (R:Int × List Int × Nat) (r:Ending) (w':World):Prop :=
 ∃ (A':Option Addr) (l c':Nat),r = .returned (.tuple #[.slice A' l c',.int .i64 R.1]) ∧ Byt w' w'.heap.size A' l c' R.2.1 ∧ From w.heap.size A' l ∧ PX w' m h g A n c d zs R.2.2 ∧ Only g w w'
set_option maxHeartbeats 4000000 in
theorem dataC {w:World} {m h g n c d p:Nat} {A:Option Addr} {zs:List Int} (x:PX w m h g A n c d zs p) (k v:Int) (c2 c3 c4:Value) :
  Calls Tryz.prog 47 #[.pointer (some ⟨m,0,none⟩),.agg #[.int .i64 k,.int .i64 v,c2,c3,c4]] w (DtP m h g A n c d zs w (dataT zs p k v)):=by
 unfold dataT
 have hb1:=(Below.refl w.heap.size w).alloc (Nat.le_refl _) (.cells #[.int .i64 k,.int .i64 v,c2,c3,c4] 27)
 have hn1:=heap_alloc_new w (.cells #[.int .i64 k,.int .i64 v,c2,c3,c4] 27)
 obtain ⟨W1,hW1⟩:∃ W1,w.alloc (.cells #[.int .i64 k,.int .i64 v,c2,c3,c4] 27) = W1:=⟨_,rfl⟩
 rw [hW1] at hb1 hn1
 have hx1:=x.low hb1
 have HLN:=lH (lineC hx1)
 have HZL:=lH x.len
 have HSM:=lH x.sm
 have HGW:=lH x.lx.cu.lt
 have HO1:=lH (Only.of_below hb1 g)
 have HN1:=lH hn1
 have HW1:=lH hW1
 have HS1:=lH hb1.size
 obtain ⟨R1,hR1⟩:∃ R1,lineT zs p = R1:=⟨_,rfl⟩
 rw [hR1] at HLN ⊢
 obtain ⟨E1,L⟩:=R1
 dsimp only at HLN ⊢
 clear hR1 x hx1 hb1 hn1 hW1
 by_cases h1:E1 = 0
 ·subst h1
  rw [if_neg (fun h=>h rfl)]
  by_cases h2:k = 2
  ·subst h2
   by_cases h3:v < 0
   ·rw [if_pos (.inr h3)]
    have g3:decide (v < 0) = true:=decide_eq_true h3
    go_enter Tryz.func47,Tryz.ntmps47
    go_upto_region 1 with fail
    rw [HW1.out]
    go_upto_region 4 with (first
     | (go_at_call 67;refine HLN.out.mono ?_;(rintro r w2 ⟨rfl,hx2,ho2⟩);have HX2:=lH hx2;have HO2:=lH (HO1.out.trans ho2);have HN2:=lH (box_keep5 HN1.out ho2 (Nat.ne_of_gt HGW.out));clear hx2 ho2))
    have q0:=cell_of_row w2 w.heap.size 0 _ _ (0,0) HN2.out
    have q1:=cell_of_row w2 w.heap.size 1 _ _ (0,0) HN2.out
    go_wp2_with fail
    go_ret2
    exact ⟨_,_,_,rfl,Byt.none_ _ _,fun h0=>absurd h0 (by omega),HX2.out,HO2.out⟩
   ·rw [if_neg (fun h=>h.elim (fun h=>h rfl) h3)]
    have g3:decide (v < 0) = false:=decide_eq_false h3
    have HTO:=lH (fun W (hW:PX W m h g A n c d zs L) (h:(n:Int) - L < v)=>take_out g n c L v A W hW.lx.cu hW.lx.pl (.inr h) (by have:=HSM.out;omega))
    by_cases h4:(zs.length:Int) - L < v
    ·rw [if_pos h4]
     have h4n:(n:Int) - L < v:=by rw [← HZL.out];exact h4
     go_enter Tryz.func47,Tryz.ntmps47
     go_upto_region 1 with fail
     rw [HW1.out]
     go_upto_region 4 with (first
      | (go_at_call 67;refine HLN.out.mono ?_;(rintro r w2 ⟨rfl,hx2,ho2⟩);have HX2:=lH hx2;have HO2:=lH (HO1.out.trans ho2);have HN2:=lH (box_keep5 HN1.out ho2 (Nat.ne_of_gt HGW.out));clear hx2 ho2))
     have q0:=cell_of_row w2 w.heap.size 0 _ _ (0,0) HN2.out
     have q1:=cell_of_row w2 w.heap.size 1 _ _ (0,0) HN2.out
     have k2:=HX2.out.k0
     have j2:=HX2.out.lx.k0
     have hst:=And.intro k2 (And.intro j2 q1)
     go_upto_region 6 with fail
     refine wp_region_heldR (fun W=>W.cell? ⟨m,0,none⟩ = some (.pointer (some ⟨h,0,none⟩)) ∧ W.cell? ⟨h,0,none⟩ = some (.pointer (some ⟨g,0,none⟩)) ∧ W.cell? ⟨w.heap.size,1,none⟩ = some (.int .i64 v)) 1000 (by kernel_rfl) ⟨k2,j2,q1⟩ (fun hHeld=>?_)
     refine tkR 0 (v:=?_) ?_ ?_;rotate_left;focus (intro wS hSw;(try dsimp only at hSw);go_simp;(try simp only [hSw]);try with_reducible rfl)
     try simp only [Act.put,aS2,aS0,aS1]
     refine tkR 1 (v:=?_) ?_ ?_;rotate_left;focus (intro wS hSw;(try dsimp only at hSw);go_simp;(try simp only [hSw]);try with_reducible rfl)
     try simp only [Act.put,aS2,aS0,aS1]
     refine tkR 2 (v:=?_) ?_ ?_;rotate_left;focus (intro wS hSw;(try dsimp only at hSw);go_simp;(try simp only [hSw]);try with_reducible rfl)
     try simp only [Act.put,aS2,aS0,aS1]
     refine tkR 3 (v:=?_) ?_ ?_;rotate_left;focus (intro wS hSw;(try dsimp only at hSw);go_simp;(try simp only [hSw]);try with_reducible rfl)
     try simp only [Act.put,aS2,aS0,aS1]
     refine tkR 4 (v:=?_) ?_ ?_;rotate_left;focus (intro wS hSw;(try dsimp only at hSw);go_simp;(try simp only [hSw]);try with_reducible rfl)
     try simp only [Act.put,aS2,aS0,aS1]
     refine tkR 5 (v:=?_) ?_ ?_;rotate_left;focus (intro wS hSw;(try dsimp only at hSw);go_simp;(try simp only [hSw]);try with_reducible rfl)
     try simp only [Act.put,aS2,aS0,aS1]
     refine tkR 6 (v:=?_) ?_ ?_;rotate_left;focus (intro wS hSw;(try dsimp only at hSw);go_simp;(try simp only [hSw]);try with_reducible rfl)
     try simp only [Act.put,aS2,aS0,aS1]
     refine tkR 7 (v:=?_) ?_ ?_;rotate_left;focus (intro wS hSw;(try dsimp only at hSw);go_simp;(try simp only [hSw]);try with_reducible rfl)
     try simp only [Act.put,aS2,aS0,aS1]
     refine tkR 8 (v:=?_) ?_ ?_;rotate_left;focus (intro wS hSw;(try dsimp only at hSw);go_simp;(try simp only [hSw]);try with_reducible rfl)
     try simp only [Act.put,aS2,aS0,aS1]
     refine wpAnyR_step 9 rfl (by kernel_rfl) (fun K hK=>?_)
     go_simp
     go_at_call 68
     refine (HTO.out _ (HX2.out.drewN 1) h4n).mono ?_
     rintro r w3 ⟨rfl,rfl⟩
     go_wp2_with fail
     refine hK.out _ _ hst (fun hHeld=>?_)
     clear hK K
     try simp only [Act.put,aS2,aS0,aS1]
     refine tkR 10 (v:=?_) ?_ ?_;rotate_left;focus (intro wS hSw;(try dsimp only at hSw);go_simp;(try simp only [hSw]);try with_reducible rfl)
     try simp only [Act.put,aS2,aS0,aS1]
     refine tkR 11 (v:=?_) ?_ ?_;rotate_left;focus (intro wS hSw;(try dsimp only at hSw);go_simp;(try simp only [hSw]);try with_reducible rfl)
     try simp only [Act.put,aS2,aS0,aS1]
     refine tkR 12 (v:=?_) ?_ ?_;rotate_left;focus (intro wS hSw;(try dsimp only at hSw);go_simp;(try simp only [hSw]);try with_reducible rfl)
     try simp only [Act.put,aS2,aS0,aS1]
     refine tkR 13 (v:=?_) ?_ ?_;rotate_left;focus (intro wS hSw;(try dsimp only at hSw);go_simp;(try simp only [hSw]);try with_reducible rfl)
     try simp only [Act.put,aS2,aS0,aS1]
     refine tkR 14 (v:=?_) ?_ ?_;rotate_left;focus (intro wS hSw;(try dsimp only at hSw);go_simp;(try simp only [hSw]);try with_reducible rfl)
     try simp only [Act.put,aS2,aS0,aS1]
     refine wpAnyR_done (by kernel_rfl) ?_
     refine NoPanic.normal ?_
     go_wp2_with fail
     go_ret2
     exact ⟨_,_,_,rfl,Byt.none_ _ _,fun h0=>absurd h0 (by omega),HX2.out.drewN 1,HO2.out.drewN 1⟩
    ·rw [if_neg h4]
     obtain ⟨V,rfl⟩:∃ V:Nat,v = (V:Int):=⟨v.toNat,by omega⟩
     rw [Int.toNat_natCast]
     have hvl:L + V ≤ n:=by have:=HZL.out;omega
     have HVL:=lH hvl
     have HTI:=lH (fun W (hW:PX W m h g A n c d zs L)=>take_in g n c L V g A zs W hW.lx.cu hW.bt hvl (by have:=HSM.out;omega) (Nat.le_refl _))
     have HWD:=lH (fun W (hW:PX W m h g A n c d zs (L + V))=>wordC hW strEnS)
     obtain ⟨R3,hR3⟩:∃ R3,wrdT zs (L + V) strEnS = R3:=⟨_,rfl⟩
     simp only [hR3] at HWD ⊢
     obtain ⟨E3,Q3⟩:=R3
     dsimp only at HWD ⊢
     clear hR3 HTO h3 h4
     obtain ⟨Z,hZ⟩:∃ Z,(zs.drop L).take V = Z:=⟨_,rfl⟩
     rw [hZ] at HTI ⊢
     clear hZ hvl
     by_cases h5:E3 = 0
     ·subst h5
      rw [if_neg (fun h=>h rfl)]
      go_enter Tryz.func47,Tryz.ntmps47
      go_upto_region 1 with fail
      rw [HW1.out]
      go_upto_region 4 with (first
       | (go_at_call 67;refine HLN.out.mono ?_;(rintro r w2 ⟨rfl,hx2,ho2⟩);have HX2:=lH hx2;have HO2:=lH (HO1.out.trans ho2);have HN2:=lH (box_keep5 HN1.out ho2 (Nat.ne_of_gt HGW.out));clear hx2 ho2))
      have q0:=cell_of_row w2 w.heap.size 0 _ _ (0,0) HN2.out
      have q1:=cell_of_row w2 w.heap.size 1 _ _ (0,0) HN2.out
      have k2:=HX2.out.k0
      have j2:=HX2.out.lx.k0
      have hst:=And.intro k2 (And.intro j2 q1)
      go_upto_region 6 with fail
      refine wp_region_heldR (fun W=>W.cell? ⟨m,0,none⟩ = some (.pointer (some ⟨h,0,none⟩)) ∧ W.cell? ⟨h,0,none⟩ = some (.pointer (some ⟨g,0,none⟩)) ∧ W.cell? ⟨w.heap.size,1,none⟩ = some (.int .i64 (V:Int))) 1000 (by kernel_rfl) ⟨k2,j2,q1⟩ (fun hHeld=>?_)
      refine tkR 0 (v:=?_) ?_ ?_;rotate_left;focus (intro wS hSw;(try dsimp only at hSw);go_simp;(try simp only [hSw]);try with_reducible rfl)
      try simp only [Act.put,aS2,aS0,aS1]
      refine tkR 1 (v:=?_) ?_ ?_;rotate_left;focus (intro wS hSw;(try dsimp only at hSw);go_simp;(try simp only [hSw]);try with_reducible rfl)
      try simp only [Act.put,aS2,aS0,aS1]
      refine tkR 2 (v:=?_) ?_ ?_;rotate_left;focus (intro wS hSw;(try dsimp only at hSw);go_simp;(try simp only [hSw]);try with_reducible rfl)
      try simp only [Act.put,aS2,aS0,aS1]
      refine tkR 3 (v:=?_) ?_ ?_;rotate_left;focus (intro wS hSw;(try dsimp only at hSw);go_simp;(try simp only [hSw]);try with_reducible rfl)
      try simp only [Act.put,aS2,aS0,aS1]
      refine tkR 4 (v:=?_) ?_ ?_;rotate_left;focus (intro wS hSw;(try dsimp only at hSw);go_simp;(try simp only [hSw]);try with_reducible rfl)
      try simp only [Act.put,aS2,aS0,aS1]
      refine tkR 5 (v:=?_) ?_ ?_;rotate_left;focus (intro wS hSw;(try dsimp only at hSw);go_simp;(try simp only [hSw]);try with_reducible rfl)
      try simp only [Act.put,aS2,aS0,aS1]
      refine tkR 6 (v:=?_) ?_ ?_;rotate_left;focus (intro wS hSw;(try dsimp only at hSw);go_simp;(try simp only [hSw]);try with_reducible rfl)
      try simp only [Act.put,aS2,aS0,aS1]
      refine tkR 7 (v:=?_) ?_ ?_;rotate_left;focus (intro wS hSw;(try dsimp only at hSw);go_simp;(try simp only [hSw]);try with_reducible rfl)
      try simp only [Act.put,aS2,aS0,aS1]
      refine tkR 8 (v:=?_) ?_ ?_;rotate_left;focus (intro wS hSw;(try dsimp only at hSw);go_simp;(try simp only [hSw]);try with_reducible rfl)
      try simp only [Act.put,aS2,aS0,aS1]
      refine wpAnyR_step 9 rfl (by kernel_rfl) (fun K hK=>?_)
      go_simp
      go_at_call 68
      refine (HTI.out _ (HX2.out.drewN 1)).mono ?_
      rintro r w3 ⟨A3,c3,rfl,hy3,hf3,hcu3,ho3⟩
      have hx3:=(HX2.out.drewN 1).moved ((HX2.out.drewN 1).lx.moved hcu3 ho3 HVL.out) ho3
      have q3:=cell_of_row w3 w.heap.size 1 _ _ (0,0) (box_keep5 (W:=w2.drewN 1) HN2.out ho3 (Nat.ne_of_gt HGW.out))
      have hst3:=And.intro hx3.k0 (And.intro hx3.lx.k0 q3)
      have HX3:=lH hx3
      have HO3:=lH ((HO2.out.drewN 1).trans ho3)
      have HY3:=lH hy3
      have HF3:Hid (From w2.heap.size A3 V):=lH hf3
      have HGL:Hid (g < w2.heap.size):=lH HX2.out.lx.cu.lt
      have HSW:=lH HO2.out.size
      clear hx3 hy3 hf3 hcu3 ho3 k2 j2 q0 q1 hst
      go_wp2_with fail
      refine hK.out _ _ hst3 (fun hHeld=>?_)
      clear hK K
      try simp only [Act.put,aS2,aS0,aS1]
      refine tkR 10 (v:=?_) ?_ ?_;rotate_left;focus (intro wS hSw;(try dsimp only at hSw);go_simp;(try simp only [hSw]);try with_reducible rfl)
      try simp only [Act.put,aS2,aS0,aS1]
      refine tkR 11 (v:=?_) ?_ ?_;rotate_left;focus (intro wS hSw;(try dsimp only at hSw);go_simp;(try simp only [hSw]);try with_reducible rfl)
      try simp only [Act.put,aS2,aS0,aS1]
      refine tkR 12 (v:=?_) ?_ ?_;rotate_left;focus (intro wS hSw;(try dsimp only at hSw);go_simp;(try simp only [hSw]);try with_reducible rfl)
      try simp only [Act.put,aS2,aS0,aS1]
      refine tkR 13 (v:=?_) ?_ ?_;rotate_left;focus (intro wS hSw;(try dsimp only at hSw);go_simp;(try simp only [hSw]);try with_reducible rfl)
      try simp only [Act.put,aS2,aS0,aS1]
      refine tkR 14 (v:=?_) ?_ ?_;rotate_left;focus (intro wS hSw;(try dsimp only at hSw);go_simp;(try simp only [hSw]);try with_reducible rfl)
      try simp only [Act.put,aS2,aS0,aS1]
      refine wpAnyR_done (by kernel_rfl) ?_
      refine NoPanic.normal ?_
      clear hst3 q3
      go_wp2_with (first
       | (go_at_call 29;refine (HWD.out _ HX3.out).mono ?_;(rintro r w5 ⟨rfl,hx5,ho5⟩);have HX5:=lH hx5;have HY5:=lH ((HY3.out.onlyF ho5 HF3.out HGL.out (Nat.le_refl _)).more ho5.size);have HO5:=lH (HO3.out.trans ho5);clear hx5 ho5))
      go_ret2
      exact ⟨_,_,_,rfl,HY5.out,fun h0 b o e=>Nat.le_trans HSW.out (HF3.out h0 b o e),HX5.out,HO5.out⟩
     ·rw [if_pos h5]
      have h5b:(E3 == 0) = false:=beq_eq_false_iff_ne.2 h5
      clear h5
      go_enter Tryz.func47,Tryz.ntmps47
      go_upto_region 1 with fail
      rw [HW1.out]
      go_upto_region 4 with (first
       | (go_at_call 67;refine HLN.out.mono ?_;(rintro r w2 ⟨rfl,hx2,ho2⟩);have HX2:=lH hx2;have HO2:=lH (HO1.out.trans ho2);have HN2:=lH (box_keep5 HN1.out ho2 (Nat.ne_of_gt HGW.out));clear hx2 ho2))
      have q0:=cell_of_row w2 w.heap.size 0 _ _ (0,0) HN2.out
      have q1:=cell_of_row w2 w.heap.size 1 _ _ (0,0) HN2.out
      have k2:=HX2.out.k0
      have j2:=HX2.out.lx.k0
      have hst:=And.intro k2 (And.intro j2 q1)
      go_upto_region 6 with fail
      refine wp_region_heldR (fun W=>W.cell? ⟨m,0,none⟩ = some (.pointer (some ⟨h,0,none⟩)) ∧ W.cell? ⟨h,0,none⟩ = some (.pointer (some ⟨g,0,none⟩)) ∧ W.cell? ⟨w.heap.size,1,none⟩ = some (.int .i64 (V:Int))) 1000 (by kernel_rfl) ⟨k2,j2,q1⟩ (fun hHeld=>?_)
      refine tkR 0 (v:=?_) ?_ ?_;rotate_left;focus (intro wS hSw;(try dsimp only at hSw);go_simp;(try simp only [hSw]);try with_reducible rfl)
      try simp only [Act.put,aS2,aS0,aS1]
      refine tkR 1 (v:=?_) ?_ ?_;rotate_left;focus (intro wS hSw;(try dsimp only at hSw);go_simp;(try simp only [hSw]);try with_reducible rfl)
      try simp only [Act.put,aS2,aS0,aS1]
      refine tkR 2 (v:=?_) ?_ ?_;rotate_left;focus (intro wS hSw;(try dsimp only at hSw);go_simp;(try simp only [hSw]);try with_reducible rfl)
      try simp only [Act.put,aS2,aS0,aS1]
      refine tkR 3 (v:=?_) ?_ ?_;rotate_left;focus (intro wS hSw;(try dsimp only at hSw);go_simp;(try simp only [hSw]);try with_reducible rfl)
      try simp only [Act.put,aS2,aS0,aS1]
      refine tkR 4 (v:=?_) ?_ ?_;rotate_left;focus (intro wS hSw;(try dsimp only at hSw);go_simp;(try simp only [hSw]);try with_reducible rfl)
      try simp only [Act.put,aS2,aS0,aS1]
      refine tkR 5 (v:=?_) ?_ ?_;rotate_left;focus (intro wS hSw;(try dsimp only at hSw);go_simp;(try simp only [hSw]);try with_reducible rfl)
      try simp only [Act.put,aS2,aS0,aS1]
      refine tkR 6 (v:=?_) ?_ ?_;rotate_left;focus (intro wS hSw;(try dsimp only at hSw);go_simp;(try simp only [hSw]);try with_reducible rfl)
      try simp only [Act.put,aS2,aS0,aS1]
      refine tkR 7 (v:=?_) ?_ ?_;rotate_left;focus (intro wS hSw;(try dsimp only at hSw);go_simp;(try simp only [hSw]);try with_reducible rfl)
      try simp only [Act.put,aS2,aS0,aS1]
      refine tkR 8 (v:=?_) ?_ ?_;rotate_left;focus (intro wS hSw;(try dsimp only at hSw);go_simp;(try simp only [hSw]);try with_reducible rfl)
      try simp only [Act.put,aS2,aS0,aS1]
      refine wpAnyR_step 9 rfl (by kernel_rfl) (fun K hK=>?_)
      go_simp
      go_at_call 68
      refine (HTI.out _ (HX2.out.drewN 1)).mono ?_
      rintro r w3 ⟨A3,c3,rfl,hy3,hf3,hcu3,ho3⟩
      have hx3:=(HX2.out.drewN 1).moved ((HX2.out.drewN 1).lx.moved hcu3 ho3 HVL.out) ho3
      have q3:=cell_of_row w3 w.heap.size 1 _ _ (0,0) (box_keep5 (W:=w2.drewN 1) HN2.out ho3 (Nat.ne_of_gt HGW.out))
      have hst3:=And.intro hx3.k0 (And.intro hx3.lx.k0 q3)
      have HX3:=lH hx3
      have HO3:=lH ((HO2.out.drewN 1).trans ho3)
      have HY3:=lH hy3
      have HF3:Hid (From w2.heap.size A3 V):=lH hf3
      have HGL:Hid (g < w2.heap.size):=lH HX2.out.lx.cu.lt
      have HSW:=lH HO2.out.size
      clear hx3 hy3 hf3 hcu3 ho3 k2 j2 q0 q1 hst
      go_wp2_with fail
      refine hK.out _ _ hst3 (fun hHeld=>?_)
      clear hK K
      try simp only [Act.put,aS2,aS0,aS1]
      refine tkR 10 (v:=?_) ?_ ?_;rotate_left;focus (intro wS hSw;(try dsimp only at hSw);go_simp;(try simp only [hSw]);try with_reducible rfl)
      try simp only [Act.put,aS2,aS0,aS1]
      refine tkR 11 (v:=?_) ?_ ?_;rotate_left;focus (intro wS hSw;(try dsimp only at hSw);go_simp;(try simp only [hSw]);try with_reducible rfl)
      try simp only [Act.put,aS2,aS0,aS1]
      refine tkR 12 (v:=?_) ?_ ?_;rotate_left;focus (intro wS hSw;(try dsimp only at hSw);go_simp;(try simp only [hSw]);try with_reducible rfl)
      try simp only [Act.put,aS2,aS0,aS1]
      refine tkR 13 (v:=?_) ?_ ?_;rotate_left;focus (intro wS hSw;(try dsimp only at hSw);go_simp;(try simp only [hSw]);try with_reducible rfl)
      try simp only [Act.put,aS2,aS0,aS1]
      refine tkR 14 (v:=?_) ?_ ?_;rotate_left;focus (intro wS hSw;(try dsimp only at hSw);go_simp;(try simp only [hSw]);try with_reducible rfl)
      try simp only [Act.put,aS2,aS0,aS1]
      refine wpAnyR_done (by kernel_rfl) ?_
      refine NoPanic.normal ?_
      clear hst3 q3
      go_wp2_with (first
       | (go_at_call 29;refine (HWD.out _ HX3.out).mono ?_;(rintro r w5 ⟨rfl,hx5,ho5⟩);have HX5:=lH hx5;have HY5:=lH ((HY3.out.onlyF ho5 HF3.out HGL.out (Nat.le_refl _)).more ho5.size);have HO5:=lH (HO3.out.trans ho5);clear hx5 ho5))
      go_ret2
      exact ⟨_,_,_,rfl,Byt.none_ _ _,fun h0=>absurd h0 (by omega),HX5.out,HO5.out⟩
  ·rw [if_pos (.inl h2)]
   have h2b:(k == 2) = false:=beq_eq_false_iff_ne.2 h2
   have h2n:(k != 2) = true:=by rw [bne,h2b];rfl
   clear h2
   go_enter Tryz.func47,Tryz.ntmps47
   go_upto_region 1 with fail
   rw [HW1.out]
   go_upto_region 4 with (first
    | (go_at_call 67;refine HLN.out.mono ?_;(rintro r w2 ⟨rfl,hx2,ho2⟩);have HX2:=lH hx2;have HO2:=lH (HO1.out.trans ho2);have HN2:=lH (box_keep5 HN1.out ho2 (Nat.ne_of_gt HGW.out));clear hx2 ho2))
   have q0:=cell_of_row w2 w.heap.size 0 _ _ (0,0) HN2.out
   have q1:=cell_of_row w2 w.heap.size 1 _ _ (0,0) HN2.out
   go_wp2_with fail
   go_ret2
   exact ⟨_,_,_,rfl,Byt.none_ _ _,fun h0=>absurd h0 (by omega),HX2.out,HO2.out⟩
 ·rw [if_pos h1]
  have h1b:(E1 == 0) = false:=beq_eq_false_iff_ne.2 h1
  clear h1
  go_enter Tryz.func47,Tryz.ntmps47
  go_upto_region 1 with fail
  rw [HW1.out]
  go_wp2_with (first
   | (go_at_call 67;refine HLN.out.mono ?_;(rintro r w2 ⟨rfl,hx2,ho2⟩);have HX2:=lH hx2;have HO2:=lH (HO1.out.trans ho2);clear hx2 ho2))
  go_ret2
  exact ⟨_,_,_,rfl,Byt.none_ _ _,fun h0=>absurd h0 (by omega),HX2.out,HO2.out⟩
end
section
open Go.RowKit
set_option linter.unusedVariables false
set_option maxRecDepth 100000
theorem wrd_blk (zs:List Int) (a b:Nat) (s:ByteArray) (h:blkP zs a = blkP zs b):wrdT zs a s = wrdT zs b s:=by
 unfold wrdT
 rw [tokT_blk zs a b h,h]
def eolT (zs:List Int) (q:Nat):Nat :=
 if peekZ zs (q:Int) = 13 ∧ peekZ zs ((q + 1:Nat):Int) = 10 then q + 2 else if peekZ zs (q:Int) = 13 ∨ peekZ zs (q:Int) = 10 then q + 1 else q
theorem blk_eol (zs:List Int) (q:Nat):blkP zs (eolT zs q) = blkP zs q:=by
 unfold eolT
 split
 ·rename_i h
  have h1:=(blkP_wh zs q (by rw [h.1];decide)).2
  have h2:=(blkP_wh zs (q + 1) (by rw [h.2];decide)).2
  rw [h1,h2]
 split
 ·rename_i h
  have h1:=(blkP_wh zs q (by rcases h with h | h <;> rw [h] <;> decide)).2
  rw [h1]
 ·rfl
theorem wrd_eol (zs:List Int) (q:Nat) (s:ByteArray):wrdT zs (eolT zs q) s = wrdT zs q s:=wrd_blk zs _ _ s (blk_eol zs q)
end
section
open Go.RowKit
set_option linter.unusedVariables false
set_option maxRecDepth 100000
def RwtP (m:Nat) (A:Option Addr) (n c d:Nat) (zs:List Int) (w:World) (v e:Int) (q:Nat) (r:Ending) (w':World):Prop :=
 ∃ (k a:Int) (A':Option Addr) (l c':Nat),r = .returned (.tuple #[.agg #[.int .i64 k,.int .i64 a,.int .i64 v,.slice A' l c'],.int .i64 e]) ∧ RX w' m A n c d zs q ∧ Only m w w'
theorem RX.set4 {w:World} {m n c d p b:Nat} {A:Option Addr} {zs:List Int} (x:RX w m A n c d zs p) (hm:m < b) {x0 x1 x2 x3:Value}:RX (set4 w b x0 x1 x2 x3) m A n c d zs p :=
 ⟨x.ld.keep (heap_set4 (Nat.ne_of_lt hm)),
  ⟨x.bt.len,x.bt.cap,x.bt.rng,fun hn=>by
  obtain ⟨b',o,e,hlt,hc⟩:=x.bt.cell hn
  exact ⟨b',o,e,hlt,fun i hi=>(World.cell?_of_block (a:=⟨b',o + i,none⟩) (heap_set4 (show b' ≠ b by omega))).trans (hc i hi)⟩⟩,x.pl,x.sm⟩
set_option maxHeartbeats 4000000 in
theorem rwantW {w:World} {m n c d p:Nat} {A:Option Addr} {zs:List Int} (x:RX w m A n c d zs p) (lo hi:Int) :
  Calls Tryz.prog 52 #[.pointer (some ⟨m,0,none⟩),.int .i64 1,.string ⟨#[]⟩,.int .i64 lo,.int .i64 hi] w (RwtP m A n c d zs w (numT zs p lo hi).1 (numT zs p lo hi).2.1 (numT zs p lo hi).2.2):=by
 unfold numT
 have hb0:=(Below.refl w.heap.size w).alloc (Nat.le_refl _) (.cells #[.int .i64 0,.int .i64 0,.int .i64 0,.slice none 0 0] 99)
 have hbx:=Bx.new w 99 (.int .i64 0) (.int .i64 0) (.int .i64 0) (.slice none 0 0)
 obtain ⟨W0,hW0⟩:∃ W0,w.alloc (.cells #[.int .i64 0,.int .i64 0,.int .i64 0,.slice none 0 0] 99) = W0:=⟨_,rfl⟩
 rw [hW0] at hb0 hbx
 have hx0:=x.low hb0
 have htk:=rtkC hx0
 have hbn:blkP zs p ≤ n:=by have:=(blkP_le zs p x.pz).2;rw [x.len] at this;exact this
 have HBN:=lH hbn
 have HBX0:=lH hbx
 have HO0:=lH (Only.of_below hb0 m)
 have HW0:=lH hW0
 have HMW:=lH x.lt
 obtain ⟨T,hT⟩:∃ T,tokT zs p = T:=⟨_,rfl⟩
 obtain ⟨bp,hbp⟩:∃ bp,blkP zs p = bp:=⟨_,rfl⟩
 rw [hT] at htk ⊢
 rw [hbp] at htk HBN ⊢
 obtain ⟨e,k,v,b,q2⟩:=T
 dsimp only at htk ⊢
 have HTK:=lH htk
 clear htk hbn hT hbp x hb0 hbx hW0 hx0
 by_cases he:e = 0
 ·subst he
  rw [if_neg (fun h=>h rfl)]
  by_cases k0:k = 0
  ·subst k0
   rw [if_neg (fun h=>absurd h.1 (by decide))]
   go_enter Tryz.func52,Tryz.ntmps52
   go_upto_region 1 with fail
   rw [HW0.out]
   go_upto_region 2 with (first
    | (go_at_call 75;refine HTK.out.mono ?_;(rintro r w3 ⟨A3,l3,c3,rfl,hx3,ho3,hy3,hf3⟩);have HX3:=lH hx3;have HO3:=lH ho3;have HY3:=lH hy3;clear hx3 ho3 hy3 hf3))
   have hn4:=Bx.new w3 99 (.int .i64 0) (.int .i64 bp) (.int .i64 v) (.slice A3 l3 c3)
   have hb4:=(Below.refl w3.heap.size w3).alloc (Nat.le_refl _) (.cells #[.int .i64 0,.int .i64 bp,.int .i64 v,.slice A3 l3 c3] 99)
   obtain ⟨w4,hw4⟩:∃ w4,w3.alloc (.cells #[.int .i64 0,.int .i64 bp,.int .i64 v,.slice A3 l3 c3] 99) = w4:=⟨_,rfl⟩
   rw [hw4] at hn4 hb4
   rw [hw4]
   have t0:=hn4.c0
   have t1:=hn4.c1
   have t2:=hn4.c2
   have t3:=hn4.c3
   have HX4:=lH (HX3.out.low hb4)
   have ho4:=HO3.out.trans (Only.of_below hb4 m)
   have HO4:=lH (HO0.out.trans ho4)
   have HY4:=lH ((HY3.out.below hb4 (Nat.le_refl _)).more hb4.size)
   have HB4:=lH (HBX0.out.only ho4 (Nat.ne_of_gt HMW.out))
   clear hn4 hb4 hw4 ho4
   have s1:=HX4.out.c1
   have sf:=HX4.out.ld.fr 1
   have hs:=HX4.out.seek bp HBN.out
   have hb9:=HB4.out.only hs.2 (Nat.ne_of_gt HMW.out)
   have ho9:=HO4.out.trans hs.2
   go_upto_region 6 with fail
   obtain ⟨w9,hw9⟩:∃ w9,w4.setCell ⟨m,1,none⟩ (.int .i64 (bp:Int)) = w9:=⟨_,rfl⟩
   rw [hw9] at hs hb9 ho9
   rw [hw9]
   have HX4:=lH hs.1
   have HB4:=lH hb9
   have HO4:=lH ho9
   clear hs hb9 ho9 hw9 s1 sf t0 t1 t2 t3
   have z0:=HB4.out.c0
   have z1:=HB4.out.c1
   have z2:=HB4.out.c2
   have z3:=HB4.out.c3
   have zf:=HB4.out.fr
   go_wp2_with fail
   refine bodyPost_ret (results_cell_row_tmp rfl _ _ w.heap.size 99 _ (0,0) _ rfl HB4.out.set4_ Tryz.underlying99 rfl (by kernel_rfl) _ rfl) rfl ?_
   exact ⟨_,_,_,_,_,rfl,HX4.out.set4 HMW.out,HO4.out.set4_ (Nat.le_refl _)⟩
  have k0b:(k == 0) = false:=beq_eq_false_iff_ne.2 k0
  have hwz:wrgZ k = 4:=if_neg k0
  rw [hwz]
  clear hwz k0
  by_cases hk:k = 1
  ·subst hk
   by_cases h1:lo ≤ v
   ·have g1:decide (v < lo) = false:=decide_eq_false (by omega)
    by_cases h2:v ≤ hi
    ·rw [if_pos ⟨rfl,h1,h2⟩]
     have g3:decide (hi < v) = false:=decide_eq_false (by omega)
     go_enter Tryz.func52,Tryz.ntmps52
     go_upto_region 1 with fail
     rw [HW0.out]
     go_upto_region 2 with (first
      | (go_at_call 75;refine HTK.out.mono ?_;(rintro r w3 ⟨A3,l3,c3,rfl,hx3,ho3,hy3,hf3⟩);have HX3:=lH hx3;have HO3:=lH ho3;have HY3:=lH hy3;clear hx3 ho3 hy3 hf3))
     have hn4:=Bx.new w3 99 (.int .i64 1) (.int .i64 bp) (.int .i64 v) (.slice A3 l3 c3)
     have hb4:=(Below.refl w3.heap.size w3).alloc (Nat.le_refl _) (.cells #[.int .i64 1,.int .i64 bp,.int .i64 v,.slice A3 l3 c3] 99)
     obtain ⟨w4,hw4⟩:∃ w4,w3.alloc (.cells #[.int .i64 1,.int .i64 bp,.int .i64 v,.slice A3 l3 c3] 99) = w4:=⟨_,rfl⟩
     rw [hw4] at hn4 hb4
     rw [hw4]
     have t0:=hn4.c0
     have t1:=hn4.c1
     have t2:=hn4.c2
     have t3:=hn4.c3
     have HX4:=lH (HX3.out.low hb4)
     have ho4:=HO3.out.trans (Only.of_below hb4 m)
     have HO4:=lH (HO0.out.trans ho4)
     have HY4:=lH ((HY3.out.below hb4 (Nat.le_refl _)).more hb4.size)
     have HB4:=lH (HBX0.out.only ho4 (Nat.ne_of_gt HMW.out))
     clear hn4 hb4 hw4 ho4
     have z0:=HB4.out.c0
     have z1:=HB4.out.c1
     have z2:=HB4.out.c2
     have z3:=HB4.out.c3
     have zf:=HB4.out.fr
     go_wp2_with fail
     refine bodyPost_ret (results_cell_row_tmp rfl _ _ w.heap.size 99 _ (0,0) _ rfl HB4.out.set4_ Tryz.underlying99 rfl (by kernel_rfl) _ rfl) rfl ?_
     exact ⟨_,_,_,_,_,rfl,HX4.out.set4 HMW.out,HO4.out.set4_ (Nat.le_refl _)⟩
    ·rw [if_neg (fun h=>h2 h.2.2)]
     have g3:decide (hi < v) = true:=decide_eq_true (by omega)
     go_enter Tryz.func52,Tryz.ntmps52
     go_upto_region 1 with fail
     rw [HW0.out]
     go_upto_region 2 with (first
      | (go_at_call 75;refine HTK.out.mono ?_;(rintro r w3 ⟨A3,l3,c3,rfl,hx3,ho3,hy3,hf3⟩);have HX3:=lH hx3;have HO3:=lH ho3;have HY3:=lH hy3;clear hx3 ho3 hy3 hf3))
     have hn4:=Bx.new w3 99 (.int .i64 1) (.int .i64 bp) (.int .i64 v) (.slice A3 l3 c3)
     have hb4:=(Below.refl w3.heap.size w3).alloc (Nat.le_refl _) (.cells #[.int .i64 1,.int .i64 bp,.int .i64 v,.slice A3 l3 c3] 99)
     obtain ⟨w4,hw4⟩:∃ w4,w3.alloc (.cells #[.int .i64 1,.int .i64 bp,.int .i64 v,.slice A3 l3 c3] 99) = w4:=⟨_,rfl⟩
     rw [hw4] at hn4 hb4
     rw [hw4]
     have t0:=hn4.c0
     have t1:=hn4.c1
     have t2:=hn4.c2
     have t3:=hn4.c3
     have HX4:=lH (HX3.out.low hb4)
     have ho4:=HO3.out.trans (Only.of_below hb4 m)
     have HO4:=lH (HO0.out.trans ho4)
     have HY4:=lH ((HY3.out.below hb4 (Nat.le_refl _)).more hb4.size)
     have HB4:=lH (HBX0.out.only ho4 (Nat.ne_of_gt HMW.out))
     clear hn4 hb4 hw4 ho4
     have s1:=HX4.out.c1
     have sf:=HX4.out.ld.fr 1
     have hs:=HX4.out.seek bp HBN.out
     have hb9:=HB4.out.only hs.2 (Nat.ne_of_gt HMW.out)
     have ho9:=HO4.out.trans hs.2
     go_upto_region 9 with fail
     obtain ⟨w9,hw9⟩:∃ w9,w4.setCell ⟨m,1,none⟩ (.int .i64 (bp:Int)) = w9:=⟨_,rfl⟩
     rw [hw9] at hs hb9 ho9
     rw [hw9]
     have HX4:=lH hs.1
     have HB4:=lH hb9
     have HO4:=lH ho9
     clear hs hb9 ho9 hw9 s1 sf t0 t1 t2 t3
     have z0:=HB4.out.c0
     have z1:=HB4.out.c1
     have z2:=HB4.out.c2
     have z3:=HB4.out.c3
     have zf:=HB4.out.fr
     go_wp2_with fail
     refine bodyPost_ret (results_cell_row_tmp rfl _ _ w.heap.size 99 _ (0,0) _ rfl HB4.out.set4_ Tryz.underlying99 rfl (by kernel_rfl) _ rfl) rfl ?_
     exact ⟨_,_,_,_,_,rfl,HX4.out.set4 HMW.out,HO4.out.set4_ (Nat.le_refl _)⟩
   ·rw [if_neg (fun h=>h1 h.2.1)]
    have g1:decide (v < lo) = true:=decide_eq_true (by omega)
    go_enter Tryz.func52,Tryz.ntmps52
    go_upto_region 1 with fail
    rw [HW0.out]
    go_upto_region 2 with (first
     | (go_at_call 75;refine HTK.out.mono ?_;(rintro r w3 ⟨A3,l3,c3,rfl,hx3,ho3,hy3,hf3⟩);have HX3:=lH hx3;have HO3:=lH ho3;have HY3:=lH hy3;clear hx3 ho3 hy3 hf3))
    have hn4:=Bx.new w3 99 (.int .i64 1) (.int .i64 bp) (.int .i64 v) (.slice A3 l3 c3)
    have hb4:=(Below.refl w3.heap.size w3).alloc (Nat.le_refl _) (.cells #[.int .i64 1,.int .i64 bp,.int .i64 v,.slice A3 l3 c3] 99)
    obtain ⟨w4,hw4⟩:∃ w4,w3.alloc (.cells #[.int .i64 1,.int .i64 bp,.int .i64 v,.slice A3 l3 c3] 99) = w4:=⟨_,rfl⟩
    rw [hw4] at hn4 hb4
    rw [hw4]
    have t0:=hn4.c0
    have t1:=hn4.c1
    have t2:=hn4.c2
    have t3:=hn4.c3
    have HX4:=lH (HX3.out.low hb4)
    have ho4:=HO3.out.trans (Only.of_below hb4 m)
    have HO4:=lH (HO0.out.trans ho4)
    have HY4:=lH ((HY3.out.below hb4 (Nat.le_refl _)).more hb4.size)
    have HB4:=lH (HBX0.out.only ho4 (Nat.ne_of_gt HMW.out))
    clear hn4 hb4 hw4 ho4
    have s1:=HX4.out.c1
    have sf:=HX4.out.ld.fr 1
    have hs:=HX4.out.seek bp HBN.out
    have hb9:=HB4.out.only hs.2 (Nat.ne_of_gt HMW.out)
    have ho9:=HO4.out.trans hs.2
    go_upto_region 9 with fail
    obtain ⟨w9,hw9⟩:∃ w9,w4.setCell ⟨m,1,none⟩ (.int .i64 (bp:Int)) = w9:=⟨_,rfl⟩
    rw [hw9] at hs hb9 ho9
    rw [hw9]
    have HX4:=lH hs.1
    have HB4:=lH hb9
    have HO4:=lH ho9
    clear hs hb9 ho9 hw9 s1 sf t0 t1 t2 t3
    have z0:=HB4.out.c0
    have z1:=HB4.out.c1
    have z2:=HB4.out.c2
    have z3:=HB4.out.c3
    have zf:=HB4.out.fr
    go_wp2_with fail
    refine bodyPost_ret (results_cell_row_tmp rfl _ _ w.heap.size 99 _ (0,0) _ rfl HB4.out.set4_ Tryz.underlying99 rfl (by kernel_rfl) _ rfl) rfl ?_
    exact ⟨_,_,_,_,_,rfl,HX4.out.set4 HMW.out,HO4.out.set4_ (Nat.le_refl _)⟩
  ·rw [if_neg (fun h=>hk h.1)]
   have hkb:(k == 1) = false:=beq_eq_false_iff_ne.2 hk
   have hkn:(k != 1) = true:=by rw [bne,hkb];rfl
   clear hk
   go_enter Tryz.func52,Tryz.ntmps52
   go_upto_region 1 with fail
   rw [HW0.out]
   go_upto_region 2 with (first
    | (go_at_call 75;refine HTK.out.mono ?_;(rintro r w3 ⟨A3,l3,c3,rfl,hx3,ho3,hy3,hf3⟩);have HX3:=lH hx3;have HO3:=lH ho3;have HY3:=lH hy3;clear hx3 ho3 hy3 hf3))
   have hn4:=Bx.new w3 99 (.int .i64 k) (.int .i64 bp) (.int .i64 v) (.slice A3 l3 c3)
   have hb4:=(Below.refl w3.heap.size w3).alloc (Nat.le_refl _) (.cells #[.int .i64 k,.int .i64 bp,.int .i64 v,.slice A3 l3 c3] 99)
   obtain ⟨w4,hw4⟩:∃ w4,w3.alloc (.cells #[.int .i64 k,.int .i64 bp,.int .i64 v,.slice A3 l3 c3] 99) = w4:=⟨_,rfl⟩
   rw [hw4] at hn4 hb4
   rw [hw4]
   have t0:=hn4.c0
   have t1:=hn4.c1
   have t2:=hn4.c2
   have t3:=hn4.c3
   have HX4:=lH (HX3.out.low hb4)
   have ho4:=HO3.out.trans (Only.of_below hb4 m)
   have HO4:=lH (HO0.out.trans ho4)
   have HY4:=lH ((HY3.out.below hb4 (Nat.le_refl _)).more hb4.size)
   have HB4:=lH (HBX0.out.only ho4 (Nat.ne_of_gt HMW.out))
   clear hn4 hb4 hw4 ho4
   have s1:=HX4.out.c1
   have sf:=HX4.out.ld.fr 1
   have hs:=HX4.out.seek bp HBN.out
   have hb9:=HB4.out.only hs.2 (Nat.ne_of_gt HMW.out)
   have ho9:=HO4.out.trans hs.2
   go_upto_region 9 with fail
   obtain ⟨w9,hw9⟩:∃ w9,w4.setCell ⟨m,1,none⟩ (.int .i64 (bp:Int)) = w9:=⟨_,rfl⟩
   rw [hw9] at hs hb9 ho9
   rw [hw9]
   have HX4:=lH hs.1
   have HB4:=lH hb9
   have HO4:=lH ho9
   clear hs hb9 ho9 hw9 s1 sf t0 t1 t2 t3
   have z0:=HB4.out.c0
   have z1:=HB4.out.c1
   have z2:=HB4.out.c2
   have z3:=HB4.out.c3
   have zf:=HB4.out.fr
   go_wp2_with fail
   refine bodyPost_ret (results_cell_row_tmp rfl _ _ w.heap.size 99 _ (0,0) _ rfl HB4.out.set4_ Tryz.underlying99 rfl (by kernel_rfl) _ rfl) rfl ?_
   exact ⟨_,_,_,_,_,rfl,HX4.out.set4 HMW.out,HO4.out.set4_ (Nat.le_refl _)⟩
 ·rw [if_pos he]
  have heb:(e == 0) = false:=beq_eq_false_iff_ne.2 he
  clear he
  go_enter Tryz.func52,Tryz.ntmps52
  go_upto_region 1 with fail
  rw [HW0.out]
  go_upto_region 2 with (first
   | (go_at_call 75;refine HTK.out.mono ?_;(rintro r w3 ⟨A3,l3,c3,rfl,hx3,ho3,hy3,hf3⟩);have HX3:=lH hx3;have HO3:=lH ho3;have HY3:=lH hy3;clear hx3 ho3 hy3 hf3))
  have hn4:=Bx.new w3 99 (.int .i64 k) (.int .i64 bp) (.int .i64 v) (.slice A3 l3 c3)
  have hb4:=(Below.refl w3.heap.size w3).alloc (Nat.le_refl _) (.cells #[.int .i64 k,.int .i64 bp,.int .i64 v,.slice A3 l3 c3] 99)
  obtain ⟨w4,hw4⟩:∃ w4,w3.alloc (.cells #[.int .i64 k,.int .i64 bp,.int .i64 v,.slice A3 l3 c3] 99) = w4:=⟨_,rfl⟩
  rw [hw4] at hn4 hb4
  rw [hw4]
  have t0:=hn4.c0
  have t1:=hn4.c1
  have t2:=hn4.c2
  have t3:=hn4.c3
  have HX4:=lH (HX3.out.low hb4)
  have ho4:=HO3.out.trans (Only.of_below hb4 m)
  have HO4:=lH (HO0.out.trans ho4)
  have HY4:=lH ((HY3.out.below hb4 (Nat.le_refl _)).more hb4.size)
  have HB4:=lH (HBX0.out.only ho4 (Nat.ne_of_gt HMW.out))
  clear hn4 hb4 hw4 ho4
  have z0:=HB4.out.c0
  have z1:=HB4.out.c1
  have z2:=HB4.out.c2
  have z3:=HB4.out.c3
  have zf:=HB4.out.fr
  go_wp2_with fail
  refine bodyPost_ret (results_cell_row_tmp rfl _ _ w.heap.size 99 _ (0,0) _ rfl HB4.out.set4_ Tryz.underlying99 rfl (by kernel_rfl) _ rfl) rfl ?_
  exact ⟨_,_,_,_,_,rfl,HX4.out.set4 HMW.out,HO4.out.set4_ (Nat.le_refl _)⟩
set_option maxHeartbeats 4000000 in
theorem rwantS {w:World} {m n c d p:Nat} {A:Option Addr} {zs:List Int} (x:RX w m A n c d zs p) (s:ByteArray) :
  Calls Tryz.prog 52 #[.pointer (some ⟨m,0,none⟩),.int .i64 9,.string s,.int .i64 0,.int .i64 0] w (fun r w'=>∃ vv,RwtP m A n c d zs w vv (wrdT zs p s).1 (wrdT zs p s).2 r w'):=by
 unfold wrdT
 have hb0:=(Below.refl w.heap.size w).alloc (Nat.le_refl _) (.cells #[.int .i64 0,.int .i64 0,.int .i64 0,.slice none 0 0] 99)
 have hbx:=Bx.new w 99 (.int .i64 0) (.int .i64 0) (.int .i64 0) (.slice none 0 0)
 obtain ⟨W0,hW0⟩:∃ W0,w.alloc (.cells #[.int .i64 0,.int .i64 0,.int .i64 0,.slice none 0 0] 99) = W0:=⟨_,rfl⟩
 rw [hW0] at hb0 hbx
 have hx0:=x.low hb0
 have htk:=rtkC hx0
 have hbn:blkP zs p ≤ n:=by have:=(blkP_le zs p x.pz).2;rw [x.len] at this;exact this
 have HBN:=lH hbn
 have HBX0:=lH hbx
 have HO0:=lH (Only.of_below hb0 m)
 have HW0:=lH hW0
 have HMW:=lH x.lt
 obtain ⟨T,hT⟩:∃ T,tokT zs p = T:=⟨_,rfl⟩
 obtain ⟨bp,hbp⟩:∃ bp,blkP zs p = bp:=⟨_,rfl⟩
 rw [hT] at htk ⊢
 rw [hbp] at htk HBN ⊢
 obtain ⟨e,k,v,b,q2⟩:=T
 dsimp only at htk ⊢
 have HTK:=lH htk
 clear htk hbn hT hbp x hb0 hbx hW0 hx0
 by_cases he:e = 0
 ·subst he
  rw [if_neg (fun h=>h rfl)]
  by_cases k0:k = 0
  ·subst k0
   rw [if_neg (fun h=>absurd h.1 (by decide))]
   go_enter Tryz.func52,Tryz.ntmps52
   go_upto_region 1 with fail
   rw [HW0.out]
   go_upto_region 2 with (first
    | (go_at_call 75;refine HTK.out.mono ?_;(rintro r w3 ⟨A3,l3,c3,rfl,hx3,ho3,hy3,hf3⟩);have HX3:=lH hx3;have HO3:=lH ho3;have HY3:=lH hy3;clear hx3 ho3 hy3 hf3))
   have hn4:=Bx.new w3 99 (.int .i64 0) (.int .i64 bp) (.int .i64 v) (.slice A3 l3 c3)
   have hb4:=(Below.refl w3.heap.size w3).alloc (Nat.le_refl _) (.cells #[.int .i64 0,.int .i64 bp,.int .i64 v,.slice A3 l3 c3] 99)
   obtain ⟨w4,hw4⟩:∃ w4,w3.alloc (.cells #[.int .i64 0,.int .i64 bp,.int .i64 v,.slice A3 l3 c3] 99) = w4:=⟨_,rfl⟩
   rw [hw4] at hn4 hb4
   rw [hw4]
   have t0:=hn4.c0
   have t1:=hn4.c1
   have t2:=hn4.c2
   have t3:=hn4.c3
   have HX4:=lH (HX3.out.low hb4)
   have ho4:=HO3.out.trans (Only.of_below hb4 m)
   have HO4:=lH (HO0.out.trans ho4)
   have HY4:=lH ((HY3.out.below hb4 (Nat.le_refl _)).more hb4.size)
   have HB4:=lH (HBX0.out.only ho4 (Nat.ne_of_gt HMW.out))
   clear hn4 hb4 hw4 ho4
   have s1:=HX4.out.c1
   have sf:=HX4.out.ld.fr 1
   have hs:=HX4.out.seek bp HBN.out
   have hb9:=HB4.out.only hs.2 (Nat.ne_of_gt HMW.out)
   have ho9:=HO4.out.trans hs.2
   go_upto_region 6 with fail
   obtain ⟨w9,hw9⟩:∃ w9,w4.setCell ⟨m,1,none⟩ (.int .i64 (bp:Int)) = w9:=⟨_,rfl⟩
   rw [hw9] at hs hb9 ho9
   rw [hw9]
   have HX4:=lH hs.1
   have HB4:=lH hb9
   have HO4:=lH ho9
   clear hs hb9 ho9 hw9 s1 sf t0 t1 t2 t3
   have z0:=HB4.out.c0
   have z1:=HB4.out.c1
   have z2:=HB4.out.c2
   have z3:=HB4.out.c3
   have zf:=HB4.out.fr
   go_wp2_with fail
   refine bodyPost_ret (results_cell_row_tmp rfl _ _ w.heap.size 99 _ (0,0) _ rfl HB4.out.set4_ Tryz.underlying99 rfl (by kernel_rfl) _ rfl) rfl ?_
   exact ⟨_,_,_,_,_,_,rfl,HX4.out.set4 HMW.out,HO4.out.set4_ (Nat.le_refl _)⟩
  have k0b:(k == 0) = false:=beq_eq_false_iff_ne.2 k0
  have hwz:wrgZ k = 4:=if_neg k0
  rw [hwz]
  clear hwz k0
  by_cases hk:k = 9
  ·subst hk
   obtain ⟨t,ht⟩:∃ t,strOfNums b = t:=⟨_,rfl⟩
   rw [ht]
   have HT:=lH ht
   clear ht
   by_cases h1:t = s
   ·subst h1
    rw [if_pos ⟨rfl,rfl⟩]
    go_enter Tryz.func52,Tryz.ntmps52
    go_upto_region 1 with fail
    rw [HW0.out]
    go_upto_region 2 with (first
     | (go_at_call 75;refine HTK.out.mono ?_;(rintro r w3 ⟨A3,l3,c3,rfl,hx3,ho3,hy3,hf3⟩);have HX3:=lH hx3;have HO3:=lH ho3;have HY3:=lH hy3;clear hx3 ho3 hy3 hf3))
    have hn4:=Bx.new w3 99 (.int .i64 9) (.int .i64 bp) (.int .i64 v) (.slice A3 l3 c3)
    have hb4:=(Below.refl w3.heap.size w3).alloc (Nat.le_refl _) (.cells #[.int .i64 9,.int .i64 bp,.int .i64 v,.slice A3 l3 c3] 99)
    obtain ⟨w4,hw4⟩:∃ w4,w3.alloc (.cells #[.int .i64 9,.int .i64 bp,.int .i64 v,.slice A3 l3 c3] 99) = w4:=⟨_,rfl⟩
    rw [hw4] at hn4 hb4
    rw [hw4]
    have t0:=hn4.c0
    have t1:=hn4.c1
    have t2:=hn4.c2
    have t3:=hn4.c3
    have HX4:=lH (HX3.out.low hb4)
    have ho4:=HO3.out.trans (Only.of_below hb4 m)
    have HO4:=lH (HO0.out.trans ho4)
    have HY4:=lH ((HY3.out.below hb4 (Nat.le_refl _)).more hb4.size)
    have HB4:=lH (HBX0.out.only ho4 (Nat.ne_of_gt HMW.out))
    clear hn4 hb4 hw4 ho4
    have hcv:=conv_str HY4.out t HT.out
    have z0:=HB4.out.c0
    have z1:=HB4.out.c1
    have z2:=HB4.out.c2
    have z3:=HB4.out.c3
    have zf:=HB4.out.fr
    go_wp2_with fail
    refine bodyPost_ret (results_cell_row_tmp rfl _ _ w.heap.size 99 _ (0,0) _ rfl HB4.out.set4_ Tryz.underlying99 rfl (by kernel_rfl) _ rfl) rfl ?_
    exact ⟨_,_,_,_,_,_,rfl,HX4.out.set4 HMW.out,HO4.out.set4_ (Nat.le_refl _)⟩
   ·rw [if_neg (fun h=>h1 h.2)]
    have hne:(t.toList == s.toList) = false:=str_ne h1
    clear h1
    go_enter Tryz.func52,Tryz.ntmps52
    go_upto_region 1 with fail
    rw [HW0.out]
    go_upto_region 2 with (first
     | (go_at_call 75;refine HTK.out.mono ?_;(rintro r w3 ⟨A3,l3,c3,rfl,hx3,ho3,hy3,hf3⟩);have HX3:=lH hx3;have HO3:=lH ho3;have HY3:=lH hy3;clear hx3 ho3 hy3 hf3))
    have hn4:=Bx.new w3 99 (.int .i64 9) (.int .i64 bp) (.int .i64 v) (.slice A3 l3 c3)
    have hb4:=(Below.refl w3.heap.size w3).alloc (Nat.le_refl _) (.cells #[.int .i64 9,.int .i64 bp,.int .i64 v,.slice A3 l3 c3] 99)
    obtain ⟨w4,hw4⟩:∃ w4,w3.alloc (.cells #[.int .i64 9,.int .i64 bp,.int .i64 v,.slice A3 l3 c3] 99) = w4:=⟨_,rfl⟩
    rw [hw4] at hn4 hb4
    rw [hw4]
    have t0:=hn4.c0
    have t1:=hn4.c1
    have t2:=hn4.c2
    have t3:=hn4.c3
    have HX4:=lH (HX3.out.low hb4)
    have ho4:=HO3.out.trans (Only.of_below hb4 m)
    have HO4:=lH (HO0.out.trans ho4)
    have HY4:=lH ((HY3.out.below hb4 (Nat.le_refl _)).more hb4.size)
    have HB4:=lH (HBX0.out.only ho4 (Nat.ne_of_gt HMW.out))
    clear hn4 hb4 hw4 ho4
    have hcv:=conv_str HY4.out t HT.out
    have s1:=HX4.out.c1
    have sf:=HX4.out.ld.fr 1
    have hs:=HX4.out.seek bp HBN.out
    have hb9:=HB4.out.only hs.2 (Nat.ne_of_gt HMW.out)
    have ho9:=HO4.out.trans hs.2
    go_upto_region 9 with fail
    obtain ⟨w9,hw9⟩:∃ w9,w4.setCell ⟨m,1,none⟩ (.int .i64 (bp:Int)) = w9:=⟨_,rfl⟩
    rw [hw9] at hs hb9 ho9
    rw [hw9]
    have HX4:=lH hs.1
    have HB4:=lH hb9
    have HO4:=lH ho9
    clear hs hb9 ho9 hw9 s1 sf t0 t1 t2 t3
    clear hcv
    have z0:=HB4.out.c0
    have z1:=HB4.out.c1
    have z2:=HB4.out.c2
    have z3:=HB4.out.c3
    have zf:=HB4.out.fr
    go_wp2_with fail
    refine bodyPost_ret (results_cell_row_tmp rfl _ _ w.heap.size 99 _ (0,0) _ rfl HB4.out.set4_ Tryz.underlying99 rfl (by kernel_rfl) _ rfl) rfl ?_
    exact ⟨_,_,_,_,_,_,rfl,HX4.out.set4 HMW.out,HO4.out.set4_ (Nat.le_refl _)⟩
  ·rw [if_neg (fun h=>hk h.1)]
   have hkb:(k == 9) = false:=beq_eq_false_iff_ne.2 hk
   have hkn:(k != 9) = true:=by rw [bne,hkb];rfl
   clear hk
   go_enter Tryz.func52,Tryz.ntmps52
   go_upto_region 1 with fail
   rw [HW0.out]
   go_upto_region 2 with (first
    | (go_at_call 75;refine HTK.out.mono ?_;(rintro r w3 ⟨A3,l3,c3,rfl,hx3,ho3,hy3,hf3⟩);have HX3:=lH hx3;have HO3:=lH ho3;have HY3:=lH hy3;clear hx3 ho3 hy3 hf3))
   have hn4:=Bx.new w3 99 (.int .i64 k) (.int .i64 bp) (.int .i64 v) (.slice A3 l3 c3)
   have hb4:=(Below.refl w3.heap.size w3).alloc (Nat.le_refl _) (.cells #[.int .i64 k,.int .i64 bp,.int .i64 v,.slice A3 l3 c3] 99)
   obtain ⟨w4,hw4⟩:∃ w4,w3.alloc (.cells #[.int .i64 k,.int .i64 bp,.int .i64 v,.slice A3 l3 c3] 99) = w4:=⟨_,rfl⟩
   rw [hw4] at hn4 hb4
   rw [hw4]
   have t0:=hn4.c0
   have t1:=hn4.c1
   have t2:=hn4.c2
   have t3:=hn4.c3
   have HX4:=lH (HX3.out.low hb4)
   have ho4:=HO3.out.trans (Only.of_below hb4 m)
   have HO4:=lH (HO0.out.trans ho4)
   have HY4:=lH ((HY3.out.below hb4 (Nat.le_refl _)).more hb4.size)
   have HB4:=lH (HBX0.out.only ho4 (Nat.ne_of_gt HMW.out))
   clear hn4 hb4 hw4 ho4
   have s1:=HX4.out.c1
   have sf:=HX4.out.ld.fr 1
   have hs:=HX4.out.seek bp HBN.out
   have hb9:=HB4.out.only hs.2 (Nat.ne_of_gt HMW.out)
   have ho9:=HO4.out.trans hs.2
   go_upto_region 9 with fail
   obtain ⟨w9,hw9⟩:∃ w9,w4.setCell ⟨m,1,none⟩ (.int .i64 (bp:Int)) = w9:=⟨_,rfl⟩
   rw [hw9] at hs hb9 ho9
   rw [hw9]
   have HX4:=lH hs.1
   have HB4:=lH hb9
   have HO4:=lH ho9
   clear hs hb9 ho9 hw9 s1 sf t0 t1 t2 t3
   have z0:=HB4.out.c0
   have z1:=HB4.out.c1
   have z2:=HB4.out.c2
   have z3:=HB4.out.c3
   have zf:=HB4.out.fr
   go_wp2_with fail
   refine bodyPost_ret (results_cell_row_tmp rfl _ _ w.heap.size 99 _ (0,0) _ rfl HB4.out.set4_ Tryz.underlying99 rfl (by kernel_rfl) _ rfl) rfl ?_
   exact ⟨_,_,_,_,_,_,rfl,HX4.out.set4 HMW.out,HO4.out.set4_ (Nat.le_refl _)⟩
 ·rw [if_pos he]
  have heb:(e == 0) = false:=beq_eq_false_iff_ne.2 he
  clear he
  go_enter Tryz.func52,Tryz.ntmps52
  go_upto_region 1 with fail
  rw [HW0.out]
  go_upto_region 2 with (first
   | (go_at_call 75;refine HTK.out.mono ?_;(rintro r w3 ⟨A3,l3,c3,rfl,hx3,ho3,hy3,hf3⟩);have HX3:=lH hx3;have HO3:=lH ho3;have HY3:=lH hy3;clear hx3 ho3 hy3 hf3))
  have hn4:=Bx.new w3 99 (.int .i64 k) (.int .i64 bp) (.int .i64 v) (.slice A3 l3 c3)
  have hb4:=(Below.refl w3.heap.size w3).alloc (Nat.le_refl _) (.cells #[.int .i64 k,.int .i64 bp,.int .i64 v,.slice A3 l3 c3] 99)
  obtain ⟨w4,hw4⟩:∃ w4,w3.alloc (.cells #[.int .i64 k,.int .i64 bp,.int .i64 v,.slice A3 l3 c3] 99) = w4:=⟨_,rfl⟩
  rw [hw4] at hn4 hb4
  rw [hw4]
  have t0:=hn4.c0
  have t1:=hn4.c1
  have t2:=hn4.c2
  have t3:=hn4.c3
  have HX4:=lH (HX3.out.low hb4)
  have ho4:=HO3.out.trans (Only.of_below hb4 m)
  have HO4:=lH (HO0.out.trans ho4)
  have HY4:=lH ((HY3.out.below hb4 (Nat.le_refl _)).more hb4.size)
  have HB4:=lH (HBX0.out.only ho4 (Nat.ne_of_gt HMW.out))
  clear hn4 hb4 hw4 ho4
  have z0:=HB4.out.c0
  have z1:=HB4.out.c1
  have z2:=HB4.out.c2
  have z3:=HB4.out.c3
  have zf:=HB4.out.fr
  go_wp2_with fail
  refine bodyPost_ret (results_cell_row_tmp rfl _ _ w.heap.size 99 _ (0,0) _ rfl HB4.out.set4_ Tryz.underlying99 rfl (by kernel_rfl) _ rfl) rfl ?_
  exact ⟨_,_,_,_,_,_,rfl,HX4.out.set4 HMW.out,HO4.out.set4_ (Nat.le_refl _)⟩
theorem rWholeC {w:World} {m n c d p:Nat} {A:Option Addr} {zs:List Int} (x:RX w m A n c d zs p) (lo hi:Int) :
  Calls Tryz.prog 30 #[.pointer (some ⟨m,0,none⟩),.int .i64 lo,.int .i64 hi] w fun r w'=>r = .returned (.tuple #[.int .i64 (numT zs p lo hi).1,.int .i64 (numT zs p lo hi).2.1]) ∧ RX w' m A n c d zs (numT zs p lo hi).2.2 ∧ Only m w w':=by
 have HWT:=lH (rwantW x lo hi)
 obtain ⟨R,hR⟩:∃ R,numT zs p lo hi = R:=⟨_,rfl⟩
 rw [hR] at HWT ⊢
 obtain ⟨V,E,Q⟩:=R
 clear hR x
 go_enter Tryz.func30,Tryz.ntmps30
 go_upto_region 2 with (first
  | (go_at_call 52;refine HWT.out.mono ?_;(rintro r w3 ⟨k,a,A3,l3,c3,rfl,hx3,ho3⟩);have HX3:=lH hx3;have HO3:=lH ho3;clear hx3 ho3))
 have hn4:=Bx.new w3 99 (.int .i64 k) (.int .i64 a) (.int .i64 V) (.slice A3 l3 c3)
 have hb4:=(Below.refl w3.heap.size w3).alloc (Nat.le_refl _) (.cells #[.int .i64 k,.int .i64 a,.int .i64 V,.slice A3 l3 c3] 99)
 have t2:=hn4.c2
 have HX4:=lH (HX3.out.low hb4)
 have HO4:=lH (HO3.out.trans (Only.of_below hb4 m))
 clear hn4 hb4
 go_wp2_with fail
 go_ret2
 exact ⟨rfl,HX4.out,HO4.out⟩
theorem rWantC {w:World} {m n c d p:Nat} {A:Option Addr} {zs:List Int} (x:RX w m A n c d zs p) (s:ByteArray) :
  Calls Tryz.prog 31 #[.pointer (some ⟨m,0,none⟩),.string s] w fun r w'=>r = .returned (.int .i64 (wrdT zs p s).1) ∧ RX w' m A n c d zs (wrdT zs p s).2 ∧ Only m w w':=by
 have HWT:=lH (rwantS x s)
 obtain ⟨R,hR⟩:∃ R,wrdT zs p s = R:=⟨_,rfl⟩
 rw [hR] at HWT ⊢
 obtain ⟨E,Q⟩:=R
 clear hR x
 go_enter Tryz.func31,Tryz.ntmps31
 go_upto_region 2 with (first
  | (go_at_call 52;refine HWT.out.mono ?_;(rintro r w3 ⟨V,k,a,A3,l3,c3,rfl,hx3,ho3⟩);have HX3:=lH hx3;have HO3:=lH ho3;clear hx3 ho3))
 have hb4:=(Below.refl w3.heap.size w3).alloc (Nat.le_refl _) (.cells #[.int .i64 k,.int .i64 a,.int .i64 V,.slice A3 l3 c3] 99)
 have HX4:=lH (HX3.out.low hb4)
 have HO4:=lH (HO3.out.trans (Only.of_below hb4 m))
 clear hb4
 go_wp2_with fail
 go_ret
 exact ⟨rfl,HX4.out,HO4.out⟩
end
end Go.Proofs.YtpomkhcobpihmaaGreat
