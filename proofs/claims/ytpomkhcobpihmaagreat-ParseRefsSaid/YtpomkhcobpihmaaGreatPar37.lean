/- Lemmas. -/
import Derived.Test.YtpomkhcobpihmaaGreatPar31
import Derived.Test.YtpomkhcobpihmaaGreatPar34
import Derived.Test.YtpomkhcobpihmaaGreatPar36
namespace Go.Proofs.YtpomkhcobpihmaaGreat
section
open Go.RowKit
set_option linter.unusedVariables false
set_option maxRecDepth 100000
abbrev nwT (w w':World):Nat → Prop:=fun b=>w.heap.size ≤ b ∧ b < w'.heap.size
def OvP (m h g:Nat) (A:Option Addr) (n c d:Nat) (zs:List Int) (w:World) (x:Ob) (q:Nat) (r:Ending) (w':World):Prop :=
 ∃ d0 d1 d2 d3 d4,r = .returned (.agg #[d0,d1,d2,d3,d4]) ∧ ObR w' (nwT w w') x d0 d1 d2 d3 d4 ∧ PX w' m h g A n c d zs q ∧ Only g w w'
def VaP (m h g:Nat) (A:Option Addr) (n c d:Nat) (zs:List Int) (w:World) (R:Rt) (r:Ending) (w':World):Prop :=
 ∃ d0 d1 d2 d3 d4,r = .returned (.tuple #[.agg #[d0,d1,d2,d3,d4],.int .i64 R.e]) ∧ ObR w' (nwT w w') R.x d0 d1 d2 d3 d4 ∧ PX w' m h g A n c d zs R.q ∧ Only g w w'
structure FinP (m h g:Nat) (A:Option Addr) (n c d:Nat) (zs:List Int) (w W:World) (b:Nat) (x:Ob) (q:Nat) (d0 d1 d2 d3 d4:Value):Prop where
 row:(((((W.setCell ⟨b,0,none⟩ d0).setCell ⟨b,1,none⟩ d1).setCell ⟨b,2,none⟩ d2).setCell ⟨b,3,none⟩ d3).setCell ⟨b,4,none⟩ d4).heap[b]? = some (.cells #[d0,d1,d2,d3,d4] 27 (0,0))
 ob:ObR (((((W.setCell ⟨b,0,none⟩ d0).setCell ⟨b,1,none⟩ d1).setCell ⟨b,2,none⟩ d2).setCell ⟨b,3,none⟩ d3).setCell ⟨b,4,none⟩ d4) (nwT w (((((W.setCell ⟨b,0,none⟩ d0).setCell ⟨b,1,none⟩ d1).setCell ⟨b,2,none⟩ d2).setCell ⟨b,3,none⟩ d3).setCell ⟨b,4,none⟩ d4)) x d0 d1 d2 d3 d4
 px:PX (((((W.setCell ⟨b,0,none⟩ d0).setCell ⟨b,1,none⟩ d1).setCell ⟨b,2,none⟩ d2).setCell ⟨b,3,none⟩ d3).setCell ⟨b,4,none⟩ d4) m h g A n c d zs q
 on:Only g w (((((W.setCell ⟨b,0,none⟩ d0).setCell ⟨b,1,none⟩ d1).setCell ⟨b,2,none⟩ d2).setCell ⟨b,3,none⟩ d3).setCell ⟨b,4,none⟩ d4)
def RsB (b:Nat) (W:World):Prop:=W.heap[b]? = some (.cells #[.int .i64 0,.int .i64 0,.slice none 0 0,.slice none 0 0,.slice none 0 0] 27 (0,0))
section
variable {w W W':World} {m h g n c d q b:Nat} {A:Option Addr} {zs:List Int} {x:Ob} {d0 d1 d2 d3 d4:Value}
theorem RsB.new (w:World):RsB w.heap.size (w.alloc (.cells #[.int .i64 0,.int .i64 0,.slice none 0 0,.slice none 0 0,.slice none 0 0] 27)):=heap_alloc_new w _
theorem RsB.lt (r:RsB b W):b < W.heap.size:=row_lt W _ _ r
theorem RsB.only (r:RsB b W) (ho:Only g W W') (hg:g < b):RsB b W':=(ho.block _ r.lt (Nat.ne_of_gt hg)).trans r
theorem RsB.low (r:RsB b W) (hb:Below W.heap.size W W'):RsB b W':=(hb.block _ r.lt).trans r
theorem RsB.fin (r:RsB b W) (hwb:w.heap.size ≤ b) (hx:ObR W (fun y=>(w.heap.size ≤ y ∧ y ≠ b) ∧ y < W.heap.size) x d0 d1 d2 d3 d4) (hp:PX W m h g A n c d zs q) (ho:Only g w W) (hm:m < w.heap.size) (hh:h < w.heap.size) (hg:g < w.heap.size):FinP m h g A n c d zs w W b x q d0 d1 d2 d3 d4 :=
 ⟨set5_row r,ObR.keep (fun y hy=>heap_set5 hy.1.2) (fun y hy=>⟨hy.1.1,by rw [size_set5];exact hy.2⟩) x hx,hp.set5 (Nat.lt_of_lt_of_le hm hwb) (Nat.lt_of_lt_of_le hh hwb) (Nat.lt_of_lt_of_le hg hwb),ho.set5 hwb⟩
theorem RsB.finN {W0:World} (r0:RsB b W0) (r:RsB b W) (hwb:w.heap.size ≤ b) (hx:ObR W (fun y=>W0.heap.size ≤ y ∧ y < W.heap.size) x d0 d1 d2 d3 d4) (hp:PX W m h g A n c d zs q) (ho:Only g w W) (hl:m < w.heap.size ∧ h < w.heap.size ∧ g < w.heap.size):FinP m h g A n c d zs w W b x q d0 d1 d2 d3 d4 :=
 r.fin hwb (ObR.keep (fun _ _=>rfl) (fun y hy=>⟨⟨Nat.le_trans hwb (Nat.le_of_lt (Nat.lt_of_lt_of_le r0.lt hy.1)),Nat.ne_of_gt (Nat.lt_of_lt_of_le r0.lt hy.1)⟩,hy.2⟩) x hx) hp ho hl.1 hl.2.1 hl.2.2
end
theorem refersC {w:World} {m h g n c d p:Nat} {A:Option Addr} {zs:List Int} (x:PX w m h g A n c d zs p) :
  Calls Tryz.prog 105 #[.pointer (some ⟨m,0,none⟩)] w fun r w'=>r = .returned (.bool (refB zs p)) ∧ PX w' m h g A n c d zs (if refB zs p = true then kwP zs (tokT zs p).q strR else p) ∧ Only g w w':=by
 have HX:=lH x
 have HTK:=lH (ptkC x)
 have k0:=x.k0
 have j0:=x.lx.k0
 have HKW:=lH (fun W (hW:PX W m h g A n c d zs (tokT zs p).q)=>pkwC hW strR (by decide))
 have HPL:=lH x.lx.pl
 unfold refB
 obtain ⟨T,hT⟩:∃ T,tokT zs p = T:=⟨_,rfl⟩
 rw [hT] at HTK HKW ⊢
 obtain ⟨e,k,v,b,q⟩:=T
 obtain ⟨bp,hbp⟩:∃ bp,blkP zs p = bp:=⟨_,rfl⟩
 rw [hbp] at HTK
 dsimp only at HTK HKW ⊢
 obtain ⟨kw,hkw⟩:∃ kw,kwB zs q strR = kw:=⟨_,rfl⟩
 obtain ⟨kp,hkp⟩:∃ kp,kwP zs q strR = kp:=⟨_,rfl⟩
 rw [hkw,hkp] at HKW ⊢
 unfold strR at HKW
 clear x hT hbp hkw hkp
 have hway:(e ≠ 0 ∧ (decide (e = 0) && (decide (k = 1) && (decide (v = 0) && kw))) = false) ∨ (e = 0 ∧ k ≠ 1 ∧ (decide (e = 0) && (decide (k = 1) && (decide (v = 0) && kw))) = false) ∨ (e = 0 ∧ k = 1 ∧ v ≠ 0 ∧ (decide (e = 0) && (decide (k = 1) && (decide (v = 0) && kw))) = false) ∨ (e = 0 ∧ k = 1 ∧ v = 0 ∧ kw = false ∧ (decide (e = 0) && (decide (k = 1) && (decide (v = 0) && kw))) = false) ∨ (e = 0 ∧ k = 1 ∧ v = 0 ∧ kw = true ∧ (decide (e = 0) && (decide (k = 1) && (decide (v = 0) && kw))) = true):=by
  by_cases h0:e = 0 <;> by_cases h1:k = 1 <;> by_cases h2:v = 0 <;> cases kw <;> simp [h0,h1,h2]
 rcases hway with ⟨he,hR⟩ | ⟨he,hk,hR⟩ | ⟨he,hk,hv,hR⟩ | ⟨he,hk,hv,hkw,hR⟩ | ⟨he,hk,hv,hkw,hR⟩
 ·rw [hR,if_neg (by decide)]
  have c1:(e == 0) = false:=beq_eq_false_iff_ne.2 he
  clear hR he
  go_enter Tryz.func105,Tryz.ntmps105
  go_upto_region 3 with (first
   | (go_at_call 35;refine (ppsC HX.out).mono ?_;(rintro r w1 ⟨rfl,rfl⟩))
   | (go_at_call 50;refine HTK.out.mono ?_;(rintro r w3 ⟨A3,l3,c3,rfl,hx3,ho3,hy3,hf3⟩);have HX3:=lH hx3;have HO3:=lH ho3;clear hx3 ho3 hy3 hf3))
  have hn4:=Bx.new w3 95 (.int .i64 k) (.int .i64 bp) (.int .i64 v) (.slice A3 l3 c3)
  have hx4:=HX3.out.alloc (.cells #[.int .i64 k,.int .i64 bp,.int .i64 v,.slice A3 l3 c3] 95)
  have ho4:=HO3.out.alloc (.cells #[.int .i64 k,.int .i64 bp,.int .i64 v,.slice A3 l3 c3] 95)
  obtain ⟨w4,hw4⟩:∃ w4,w3.alloc (.cells #[.int .i64 k,.int .i64 bp,.int .i64 v,.slice A3 l3 c3] 95) = w4:=⟨_,rfl⟩
  rw [hw4] at hn4 hx4 ho4
  rw [hw4]
  have t0:=hn4.c0
  have t2:=hn4.c2
  have k4:=hx4.k0
  have j4:=hx4.lx.k0
  have HX4:=lH hx4
  have HO4:=lH ho4
  clear hn4 hx4 ho4 hw4
  go_wp2_with (first
   | (go_at_call 63;refine (pskC HX4.out p HPL.out).mono ?_;(rintro r w5 ⟨rfl,hx5,ho5⟩)))
  go_ret
  exact ⟨rfl,hx5,HO4.out.trans ho5⟩
 ·subst he
  rw [hR,if_neg (by decide)]
  have c1:(k == 1) = false:=beq_eq_false_iff_ne.2 hk
  clear hR hk
  go_enter Tryz.func105,Tryz.ntmps105
  go_upto_region 3 with (first
   | (go_at_call 35;refine (ppsC HX.out).mono ?_;(rintro r w1 ⟨rfl,rfl⟩))
   | (go_at_call 50;refine HTK.out.mono ?_;(rintro r w3 ⟨A3,l3,c3,rfl,hx3,ho3,hy3,hf3⟩);have HX3:=lH hx3;have HO3:=lH ho3;clear hx3 ho3 hy3 hf3))
  have hn4:=Bx.new w3 95 (.int .i64 k) (.int .i64 bp) (.int .i64 v) (.slice A3 l3 c3)
  have hx4:=HX3.out.alloc (.cells #[.int .i64 k,.int .i64 bp,.int .i64 v,.slice A3 l3 c3] 95)
  have ho4:=HO3.out.alloc (.cells #[.int .i64 k,.int .i64 bp,.int .i64 v,.slice A3 l3 c3] 95)
  obtain ⟨w4,hw4⟩:∃ w4,w3.alloc (.cells #[.int .i64 k,.int .i64 bp,.int .i64 v,.slice A3 l3 c3] 95) = w4:=⟨_,rfl⟩
  rw [hw4] at hn4 hx4 ho4
  rw [hw4]
  have t0:=hn4.c0
  have t2:=hn4.c2
  have k4:=hx4.k0
  have j4:=hx4.lx.k0
  have HX4:=lH hx4
  have HO4:=lH ho4
  clear hn4 hx4 ho4 hw4
  go_wp2_with (first
   | (go_at_call 63;refine (pskC HX4.out p HPL.out).mono ?_;(rintro r w5 ⟨rfl,hx5,ho5⟩)))
  go_ret
  exact ⟨rfl,hx5,HO4.out.trans ho5⟩
 ·subst he hk
  rw [hR,if_neg (by decide)]
  have c1:(v == 0) = false:=beq_eq_false_iff_ne.2 hv
  clear hR hv
  go_enter Tryz.func105,Tryz.ntmps105
  go_upto_region 3 with (first
   | (go_at_call 35;refine (ppsC HX.out).mono ?_;(rintro r w1 ⟨rfl,rfl⟩))
   | (go_at_call 50;refine HTK.out.mono ?_;(rintro r w3 ⟨A3,l3,c3,rfl,hx3,ho3,hy3,hf3⟩);have HX3:=lH hx3;have HO3:=lH ho3;clear hx3 ho3 hy3 hf3))
  have hn4:=Bx.new w3 95 (.int .i64 1) (.int .i64 bp) (.int .i64 v) (.slice A3 l3 c3)
  have hx4:=HX3.out.alloc (.cells #[.int .i64 1,.int .i64 bp,.int .i64 v,.slice A3 l3 c3] 95)
  have ho4:=HO3.out.alloc (.cells #[.int .i64 1,.int .i64 bp,.int .i64 v,.slice A3 l3 c3] 95)
  obtain ⟨w4,hw4⟩:∃ w4,w3.alloc (.cells #[.int .i64 1,.int .i64 bp,.int .i64 v,.slice A3 l3 c3] 95) = w4:=⟨_,rfl⟩
  rw [hw4] at hn4 hx4 ho4
  rw [hw4]
  have t0:=hn4.c0
  have t2:=hn4.c2
  have k4:=hx4.k0
  have j4:=hx4.lx.k0
  have HX4:=lH hx4
  have HO4:=lH ho4
  clear hn4 hx4 ho4 hw4
  go_wp2_with (first
   | (go_at_call 63;refine (pskC HX4.out p HPL.out).mono ?_;(rintro r w5 ⟨rfl,hx5,ho5⟩)))
  go_ret
  exact ⟨rfl,hx5,HO4.out.trans ho5⟩
 ·subst he hk hv hkw
  rw [hR,if_neg (by decide)]
  clear hR
  go_enter Tryz.func105,Tryz.ntmps105
  go_upto_region 3 with (first
   | (go_at_call 35;refine (ppsC HX.out).mono ?_;(rintro r w1 ⟨rfl,rfl⟩))
   | (go_at_call 50;refine HTK.out.mono ?_;(rintro r w3 ⟨A3,l3,c3,rfl,hx3,ho3,hy3,hf3⟩);have HX3:=lH hx3;have HO3:=lH ho3;clear hx3 ho3 hy3 hf3))
  have hn4:=Bx.new w3 95 (.int .i64 1) (.int .i64 bp) (.int .i64 0) (.slice A3 l3 c3)
  have hx4:=HX3.out.alloc (.cells #[.int .i64 1,.int .i64 bp,.int .i64 0,.slice A3 l3 c3] 95)
  have ho4:=HO3.out.alloc (.cells #[.int .i64 1,.int .i64 bp,.int .i64 0,.slice A3 l3 c3] 95)
  obtain ⟨w4,hw4⟩:∃ w4,w3.alloc (.cells #[.int .i64 1,.int .i64 bp,.int .i64 0,.slice A3 l3 c3] 95) = w4:=⟨_,rfl⟩
  rw [hw4] at hn4 hx4 ho4
  rw [hw4]
  have t0:=hn4.c0
  have t2:=hn4.c2
  have k4:=hx4.k0
  have j4:=hx4.lx.k0
  have HX4:=lH hx4
  have HO4:=lH ho4
  clear hn4 hx4 ho4 hw4
  go_wp2_with (first
   | (go_at_call 46;refine (HKW.out _ HX4.out).mono ?_;(rintro r w5 ⟨rfl,hx5,ho5⟩);have HX5:=lH hx5;have HO5:=lH (HO4.out.trans ho5);have k5:=hx5.k0;have j5:=hx5.lx.k0;clear hx5 ho5)
   | (go_at_call 63;refine (pskC HX5.out p HPL.out).mono ?_;(rintro r w6 ⟨rfl,hx6,ho6⟩)))
  go_ret
  exact ⟨rfl,hx6,HO5.out.trans ho6⟩
 ·subst he hk hv hkw
  rw [hR,if_pos rfl]
  clear hR
  go_enter Tryz.func105,Tryz.ntmps105
  go_upto_region 3 with (first
   | (go_at_call 35;refine (ppsC HX.out).mono ?_;(rintro r w1 ⟨rfl,rfl⟩))
   | (go_at_call 50;refine HTK.out.mono ?_;(rintro r w3 ⟨A3,l3,c3,rfl,hx3,ho3,hy3,hf3⟩);have HX3:=lH hx3;have HO3:=lH ho3;clear hx3 ho3 hy3 hf3))
  have hn4:=Bx.new w3 95 (.int .i64 1) (.int .i64 bp) (.int .i64 0) (.slice A3 l3 c3)
  have hx4:=HX3.out.alloc (.cells #[.int .i64 1,.int .i64 bp,.int .i64 0,.slice A3 l3 c3] 95)
  have ho4:=HO3.out.alloc (.cells #[.int .i64 1,.int .i64 bp,.int .i64 0,.slice A3 l3 c3] 95)
  obtain ⟨w4,hw4⟩:∃ w4,w3.alloc (.cells #[.int .i64 1,.int .i64 bp,.int .i64 0,.slice A3 l3 c3] 95) = w4:=⟨_,rfl⟩
  rw [hw4] at hn4 hx4 ho4
  rw [hw4]
  have t0:=hn4.c0
  have t2:=hn4.c2
  have k4:=hx4.k0
  have j4:=hx4.lx.k0
  have HX4:=lH hx4
  have HO4:=lH ho4
  clear hn4 hx4 ho4 hw4
  go_wp2_with (first
   | (go_at_call 46;refine (HKW.out _ HX4.out).mono ?_;(rintro r w5 ⟨rfl,hx5,ho5⟩);have HX5:=lH hx5;have HO5:=lH (HO4.out.trans ho5);clear hx5 ho5))
  go_ret
  exact ⟨rfl,HX5.out,HO5.out⟩
end
end Go.Proofs.YtpomkhcobpihmaaGreat
