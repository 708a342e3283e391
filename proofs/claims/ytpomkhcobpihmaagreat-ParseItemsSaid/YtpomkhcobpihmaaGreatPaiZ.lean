/- ParseItems: any bytes: the object with its number that stands there, its stream as long as it says; or what is wrong first, and where. -/
import Derived.Test.YtpomkhcobpihmaaGreatPai51
import Derived.Test.YtpomkhcobpihmaaGreatPai52
namespace Go.Proofs.YtpomkhcobpihmaaGreat
open Go.ChangeShapes Go.WideShapes Go.ChangeAt Go.RowKit Go.Deep
set_option linter.unusedVariables false
set_option maxRecDepth 100000
def RS13 (W:World) (b1 b2 m h g mr:Nat) (N:Int) (x0 x1 x2 x3 x4 y0 y1 y2 y3 y4:Value) (q:Nat):Prop :=
 W.cell? ⟨b1,0,none⟩ = some (.int .i64 N) ∧ W.cell? ⟨b1,1,none⟩ = some x0 ∧ W.cell? ⟨b1,2,none⟩ = some x1 ∧ W.cell? ⟨b1,3,none⟩ = some x2 ∧ W.cell? ⟨b1,4,none⟩ = some x3 ∧ W.cell? ⟨b1,5,none⟩ = some x4 ∧
 W.cell? ⟨b2,0,none⟩ = some (.int .i64 N) ∧ W.cell? ⟨b2,1,none⟩ = some y0 ∧ W.cell? ⟨b2,2,none⟩ = some y1 ∧ W.cell? ⟨b2,3,none⟩ = some y2 ∧ W.cell? ⟨b2,4,none⟩ = some y3 ∧ W.cell? ⟨b2,5,none⟩ = some y4 ∧
 W.cell? ⟨m,0,none⟩ = some (.pointer (some ⟨h,0,none⟩)) ∧ W.cell? ⟨h,0,none⟩ = some (.pointer (some ⟨g,0,none⟩)) ∧ W.cell? ⟨mr,1,none⟩ = some (.int .i64 q)
theorem items_out (A:Option Addr) (n c:Nat) (d:Int) (w:World) (hn:n ≤ 9223372036854775807) (h:800 < n) :
  Calls Tryz.prog 4 #[.slice A n c,.int .i64 d] w fun e w'=>e = .returned (.bool true) ∧ Below w.heap.size w w':=by
 have HAW:=lH (awake_any12 w)
 have g1:(n:Int) > 800:=by omega
 go_enter Tryz.func4,Tryz.ntmps4
 go_wp2_with (first
  | (go_at_call 8;refine HAW.out.mono ?_;(rintro e w1 ⟨rfl,hb1⟩)))
 go_ret
 exact ⟨rfl,hb1⟩
set_option maxHeartbeats 8000000 in
theorem items_main (A:Option Addr) (n c:Nat) (d:Int) (zs:List Int) (w:World) (hz:Byt w w.heap.size A n c zs) (hn:n ≤ 800) (hd:-9223372036854775808 ≤ d ∧ d ≤ 9223372036854775807) :
  Calls Tryz.prog 4 #[.slice A n c,.int .i64 d] w fun e w'=>e = .returned (.bool true) ∧ Below w.heap.size w w':=by
 have HAW:=lH (awake_any12 w)
 have HDD:=lH hd
 have g1:¬ (n:Int) > 800:=by omega
 have HNEW:=lH (fun W (hb:Below w.heap.size w W)=>pnewC A n c d zs W ((hz.below hb (Nat.le_refl _)).more hb.size) (by omega) hd)
 have HNEWR:=lH (fun W (hb:Below w.heap.size w W)=>rnewC d ((hz.below hb (Nat.le_refl _)).more hb.size) (by omega) hd)
 have HNN:=lH hn
 have HD2:=lH (dpZ_le d)
 obtain ⟨D,hD⟩:∃ D,dpZ d = D:=⟨_,rfl⟩
 rw [hD] at HNEW HNEWR HD2
 clear hz hd hn hD
 go_enter Tryz.func4,Tryz.ntmps4
 go_upto_region 6 with (first
  | (go_at_call 8;refine HAW.out.mono ?_;(rintro e w1 ⟨rfl,hb1⟩);have HB1:=lH hb1;clear hb1)
  | (go_at_call 10;refine (HNEW.out _ HB1.out).mono ?_;(rintro r w2 ⟨rfl,hx2,hb2⟩);have HX2:=lH hx2;have HB2:=lH hb2;clear hx2 hb2))
 have hw2:w1.heap.size + 2 < w2.heap.size:=HX2.out.lt
 have HB2W:=lH (HB1.out.trans (HB2.out.mono HB1.out.size))
 go_upto_region 7 with (first
  | (go_at_call 12;refine (HNEWR.out _ HB2W.out).mono ?_;(rintro r w3 ⟨rfl,hx3,hs3,hb3⟩);have HX3:=lH hx3;have HB3:=lH hb3;clear hx3 hb3 hs3))
 have HQ0:=lH (show QV w w3 (w1.heap.size + 2) (w1.heap.size + 1) w1.heap.size w2.heap.size A n c D zs 0 from ⟨HX2.out.low HB3.out,HX3.out,HB1.out.size,by omega,by omega,by omega,HB2W.out.trans (HB3.out.mono HB2W.out.size)⟩)
 obtain ⟨m,hm⟩:∃ m,w1.heap.size + 2 = m:=⟨_,rfl⟩
 obtain ⟨h,hh⟩:∃ h,w1.heap.size + 1 = h:=⟨_,rfl⟩
 obtain ⟨g,hg⟩:∃ g,w1.heap.size = g:=⟨_,rfl⟩
 obtain ⟨mr,hmr⟩:∃ mr,w2.heap.size = mr:=⟨_,rfl⟩
 rw [hm,hh,hg,hmr] at HQ0
 rw [hm,hmr]
 clear g1 hh hg hm hmr hw2 HX2 HB2 HX3 HB3 HB1 HB2W HAW HNEW HNEWR
 go_wp2_with fail
 go_loopw [7] (fun s7 wr=>∃ (i p:Nat),s7 = .int .i64 i ∧ Hid (QV w wr m h g mr A n c D zs p)) (fun s7 _=>2 - (intOf s7).toNat)
 case atStart=>exact ⟨0,0,rfl,HQ0⟩
 case round =>
  obtain ⟨i,p,rfl,HQ⟩:=hrel
  by_cases hi:i < 2
  ·have gi:(i:Int) < 2:=by omega
   have HPV:=lH (pItemC 1000 HQ.out.px HD2.out (by have:=HNN.out;omega))
   have HRV:=lH (fun W (hW:RX W mr A n c D zs p)=>rItemC 1000 hW HD2.out (by have:=HNN.out;omega))
   obtain ⟨R,hR⟩:∃ R,itemT zs 1000 D p = R:=⟨_,rfl⟩
   rw [hR] at HPV HRV
   obtain ⟨N,E,X,q⟩:=R
   clear hR
   go_upto_region 11 with (first
    | (go_at_call 11;refine HPV.out.mono ?_;(rintro r w5 ⟨d0,d1,d2,d3,d4,hrr,hob,hx5,ho5⟩);(try dsimp only at hrr hob hx5);subst hrr;obtain ⟨k5,n5,A5,m5,e5,A6,m6,e6,A7,m7,e7,rfl,rfl,rfl,rfl,rfl⟩:=hob.shp;have HO5:=lH hob;have HX5:=lH hx5;have HN5:=lH ho5;clear hob hx5 ho5))
   have hb6:=(Below.refl w5.heap.size w5).alloc (Nat.le_refl _) (.cells #[.int .i64 N,.int .i64 k5,.int .i64 n5,.slice A5 m5 e5,.slice A6 m6 e6,.slice A7 m7 e7] 34)
   have hn6:=heap_alloc_new w5 (.cells #[.int .i64 N,.int .i64 k5,.int .i64 n5,.slice A5 m5 e5,.slice A6 m6 e6,.slice A7 m7 e7] 34)
   obtain ⟨w6,hw6⟩:∃ w6,w5.alloc (.cells #[.int .i64 N,.int .i64 k5,.int .i64 n5,.slice A5 m5 e5,.slice A6 m6 e6,.slice A7 m7 e7] 34) = w6:=⟨_,rfl⟩
   rw [hw6] at hb6 hn6
   rw [hw6]
   have hmv:=HQ.out.moveP HX5.out HN5.out
   have HX6:=lH (HX5.out.low hb6)
   have HR6:=lH (hmv.1.low hb6)
   have HB6:=lH (hmv.2.trans (hb6.mono hmv.2.size))
   have hmr5:mr < w5.heap.size:=hmv.1.lt
   have HM5:=lH hmr5
   have hmr4:mr < wr.heap.size:=HQ.out.rx.lt
   have HO6:=lH (ObR.keep (S':=fun y=>mr < y ∧ y < w6.heap.size) (fun b hb=>hb6.block b hb.2) (fun b hb=>⟨Nat.lt_of_lt_of_le hmr4 hb.1,Nat.lt_of_lt_of_le hb.2 hb6.size⟩) _ HO5.out)
   have HN6:=lH hn6
   have HS6:=lH hb6.size
   clear hb6 hn6 hw6 hmv hmr5 hmr4
   go_upto_region 12 with (first
    | (go_at_call 13;refine (HRV.out _ HR6.out).mono ?_;(rintro r w7 ⟨d0,d1,d2,d3,d4,hrr,hob,hx7,ho7⟩);(try dsimp only at hrr hob hx7);subst hrr;obtain ⟨k7,n7,B5,l5,f5,B6,l6,f6,B7,l7,f7,rfl,rfl,rfl,rfl,rfl⟩:=hob.shp;have HO7:=lH hob;have HX7:=lH hx7;have HN7:=lH ho7;clear hob hx7 ho7))
   have hb8:=(Below.refl w7.heap.size w7).alloc (Nat.le_refl _) (.cells #[.int .i64 N,.int .i64 k7,.int .i64 n7,.slice B5 l5 f5,.slice B6 l6 f6,.slice B7 l7 f7] 34)
   have hn8:=heap_alloc_new w7 (.cells #[.int .i64 N,.int .i64 k7,.int .i64 n7,.slice B5 l5 f5,.slice B6 l6 f6,.slice B7 l7 f7] 34)
   obtain ⟨w8,hw8⟩:∃ w8,w7.alloc (.cells #[.int .i64 N,.int .i64 k7,.int .i64 n7,.slice B5 l5 f5,.slice B6 l6 f6,.slice B7 l7 f7] 34) = w8:=⟨_,rfl⟩
   rw [hw8] at hb8 hn8
   rw [hw8]
   have hx5r:=HX6.out.lowB (HN7.out.below (Nat.le_of_lt HR6.out.lt)) HQ.out.mm HQ.out.hm HQ.out.gm
   have hq8:QV w w8 m h g mr A n c D zs q:=⟨hx5r.low hb8,HX7.out.low hb8,HQ.out.lo,HQ.out.gm,HQ.out.mm,HQ.out.hm,(HB6.out.trans (HN7.out.belowB HQ.out.lg (Nat.le_of_lt HR6.out.lt))).trans (hb8.mono (Nat.le_trans HB6.out.size HN7.out.size))⟩
   have HQ8:=lH hq8
   have hn6b:=(hb8.block _ (Nat.lt_of_lt_of_le (row_lt _ _ _ HN6.out) HN7.out.size)).trans (box_keep HN6.out HN7.out (Nat.ne_of_gt HM5.out))
   have hoa:=ObR.keep (S':=fun y=>y < w8.heap.size) (fun b hb=>(hb8.block b (Nat.lt_of_lt_of_le hb.2 HN7.out.size)).trans (HN7.out.block b hb.2 (Nat.ne_of_gt hb.1))) (fun b hb=>Nat.lt_of_lt_of_le (Nat.lt_of_lt_of_le hb.2 HN7.out.size) hb8.size) _ HO6.out
   have hoc:=ObR.keep (S':=fun y=>y < w8.heap.size) (fun b hb=>hb8.block b hb.2) (fun b hb=>Nat.lt_of_lt_of_le hb.2 hb8.size) _ HO7.out
   have HSM:=lH (fun W (hW:Below w8.heap.size w8 W)=>same_yes X W (ObR.keep (fun b hb=>hW.block b hb) (fun b hb=>Nat.lt_of_lt_of_le hb hW.size) _ hoa) (ObR.keep (fun b hb=>hW.block b hb) (fun b hb=>Nat.lt_of_lt_of_le hb hW.size) _ hoc))
   have HRS:=lH (show ∀ W,Below w8.heap.size w8 W → RS13 W w5.heap.size w7.heap.size m h g mr N (.int .i64 k5) (.int .i64 n5) (.slice A5 m5 e5) (.slice A6 m6 e6) (.slice A7 m7 e7) (.int .i64 k7) (.int .i64 n7) (.slice B5 l5 f5) (.slice B6 l6 f6) (.slice B7 l7 f7) q from fun W hW=>by
    have z1:=(hW.block _ (row_lt _ _ _ hn6b)).trans hn6b
    have z2:=(hW.block _ (row_lt _ _ _ hn8)).trans hn8
    have hq:=hq8.low hW
    exact ⟨cell_of_row _ _ 0 _ _ (0,0) z1,cell_of_row _ _ 1 _ _ (0,0) z1,cell_of_row _ _ 2 _ _ (0,0) z1,cell_of_row _ _ 3 _ _ (0,0) z1,cell_of_row _ _ 4 _ _ (0,0) z1,cell_of_row _ _ 5 _ _ (0,0) z1,cell_of_row _ _ 0 _ _ (0,0) z2,cell_of_row _ _ 1 _ _ (0,0) z2,cell_of_row _ _ 2 _ _ (0,0) z2,cell_of_row _ _ 3 _ _ (0,0) z2,cell_of_row _ _ 4 _ _ (0,0) z2,cell_of_row _ _ 5 _ _ (0,0) z2,hq.px.k0,hq.px.lx.k0,hq.rx.c1⟩)
   have HBR:Hid (Below w8.heap.size w8 w8.drew):=lH (Below.refl _ _).drew
   clear hb8 hn8 hw8 hx5r hq8 hn6b HPV HRV hoa hoc
   refine wp_region_heldR (fun W=>RS13 W w5.heap.size w7.heap.size m h g mr N (.int .i64 k5) (.int .i64 n5) (.slice A5 m5 e5) (.slice A6 m6 e6) (.slice A7 m7 e7) (.int .i64 k7) (.int .i64 n7) (.slice B5 l5 f5) (.slice B6 l6 f6) (.slice B7 l7 f7) q) 1000 (by kernel_rfl) (HRS.out _ HBR.out) (fun hHeld=>?_)
   refine tkR 0 (v:=?_) ?_ ?_;rotate_left;focus (intro wS hSw;obtain ⟨s0,s1,s2,s3,s4,s5,s6,s7,s8,s9,sa,sb,sc,sd,se⟩:=hSw;go_simp;(try simp only [s0,s1,s2,s3,s4,s5,s6,s7,s8,s9,sa,sb,sc,sd,se]);(try simp only [bne_self_eq_false]);try with_reducible rfl)
   try simp only [Act.put,aS2,aS0,aS1]
   refine tkR 1 (v:=?_) ?_ ?_;rotate_left;focus (intro wS hSw;obtain ⟨s0,s1,s2,s3,s4,s5,s6,s7,s8,s9,sa,sb,sc,sd,se⟩:=hSw;go_simp;(try simp only [s0,s1,s2,s3,s4,s5,s6,s7,s8,s9,sa,sb,sc,sd,se]);(try simp only [bne_self_eq_false]);try with_reducible rfl)
   try simp only [Act.put,aS2,aS0,aS1]
   refine tkR 2 (v:=?_) ?_ ?_;rotate_left;focus (intro wS hSw;obtain ⟨s0,s1,s2,s3,s4,s5,s6,s7,s8,s9,sa,sb,sc,sd,se⟩:=hSw;go_simp;(try simp only [s0,s1,s2,s3,s4,s5,s6,s7,s8,s9,sa,sb,sc,sd,se]);(try simp only [bne_self_eq_false]);try with_reducible rfl)
   try simp only [Act.put,aS2,aS0,aS1]
   refine tkR 3 (v:=?_) ?_ ?_;rotate_left;focus (intro wS hSw;obtain ⟨s0,s1,s2,s3,s4,s5,s6,s7,s8,s9,sa,sb,sc,sd,se⟩:=hSw;go_simp;(try simp only [s0,s1,s2,s3,s4,s5,s6,s7,s8,s9,sa,sb,sc,sd,se]);(try simp only [bne_self_eq_false]);try with_reducible rfl)
   try simp only [Act.put,aS2,aS0,aS1]
   refine tkR 4 (v:=?_) ?_ ?_;rotate_left;focus (intro wS hSw;obtain ⟨s0,s1,s2,s3,s4,s5,s6,s7,s8,s9,sa,sb,sc,sd,se⟩:=hSw;go_simp;(try simp only [s0,s1,s2,s3,s4,s5,s6,s7,s8,s9,sa,sb,sc,sd,se]);(try simp only [bne_self_eq_false]);try with_reducible rfl)
   try simp only [Act.put,aS2,aS0,aS1]
   refine tkR 5 (v:=?_) ?_ ?_;rotate_left;focus (intro wS hSw;obtain ⟨s0,s1,s2,s3,s4,s5,s6,s7,s8,s9,sa,sb,sc,sd,se⟩:=hSw;go_simp;(try simp only [s0,s1,s2,s3,s4,s5,s6,s7,s8,s9,sa,sb,sc,sd,se]);(try simp only [bne_self_eq_false]);try with_reducible rfl)
   try simp only [Act.put,aS2,aS0,aS1]
   refine tkR 6 (v:=?_) ?_ ?_;rotate_left;focus (intro wS hSw;obtain ⟨s0,s1,s2,s3,s4,s5,s6,s7,s8,s9,sa,sb,sc,sd,se⟩:=hSw;go_simp;(try simp only [s0,s1,s2,s3,s4,s5,s6,s7,s8,s9,sa,sb,sc,sd,se]);(try simp only [bne_self_eq_false]);try with_reducible rfl)
   try simp only [Act.put,aS2,aS0,aS1]
   refine tkR 7 (v:=?_) ?_ ?_;rotate_left;focus (intro wS hSw;obtain ⟨s0,s1,s2,s3,s4,s5,s6,s7,s8,s9,sa,sb,sc,sd,se⟩:=hSw;go_simp;(try simp only [s0,s1,s2,s3,s4,s5,s6,s7,s8,s9,sa,sb,sc,sd,se]);(try simp only [bne_self_eq_false]);try with_reducible rfl)
   try simp only [Act.put,aS2,aS0,aS1]
   refine tkR 8 (v:=?_) ?_ ?_;rotate_left;focus (intro wS hSw;obtain ⟨s0,s1,s2,s3,s4,s5,s6,s7,s8,s9,sa,sb,sc,sd,se⟩:=hSw;go_simp;(try simp only [s0,s1,s2,s3,s4,s5,s6,s7,s8,s9,sa,sb,sc,sd,se]);(try simp only [bne_self_eq_false]);try with_reducible rfl)
   try simp only [Act.put,aS2,aS0,aS1]
   refine tkR 9 (v:=?_) ?_ ?_;rotate_left;focus (intro wS hSw;obtain ⟨s0,s1,s2,s3,s4,s5,s6,s7,s8,s9,sa,sb,sc,sd,se⟩:=hSw;go_simp;(try simp only [s0,s1,s2,s3,s4,s5,s6,s7,s8,s9,sa,sb,sc,sd,se]);(try simp only [bne_self_eq_false]);try with_reducible rfl)
   try simp only [Act.put,aS2,aS0,aS1]
   refine tkR 10 (v:=?_) ?_ ?_;rotate_left;focus (intro wS hSw;obtain ⟨s0,s1,s2,s3,s4,s5,s6,s7,s8,s9,sa,sb,sc,sd,se⟩:=hSw;go_simp;(try simp only [s0,s1,s2,s3,s4,s5,s6,s7,s8,s9,sa,sb,sc,sd,se]);(try simp only [bne_self_eq_false]);try with_reducible rfl)
   try simp only [Act.put,aS2,aS0,aS1]
   refine tkR 11 (v:=?_) ?_ ?_;rotate_left;focus (intro wS hSw;obtain ⟨s0,s1,s2,s3,s4,s5,s6,s7,s8,s9,sa,sb,sc,sd,se⟩:=hSw;go_simp;(try simp only [s0,s1,s2,s3,s4,s5,s6,s7,s8,s9,sa,sb,sc,sd,se]);(try simp only [bne_self_eq_false]);try with_reducible rfl)
   try simp only [Act.put,aS2,aS0,aS1]
   refine tkR 12 (v:=?_) ?_ ?_;rotate_left;focus (intro wS hSw;obtain ⟨s0,s1,s2,s3,s4,s5,s6,s7,s8,s9,sa,sb,sc,sd,se⟩:=hSw;go_simp;(try simp only [s0,s1,s2,s3,s4,s5,s6,s7,s8,s9,sa,sb,sc,sd,se]);(try simp only [bne_self_eq_false]);try with_reducible rfl)
   try simp only [Act.put,aS2,aS0,aS1]
   refine tkR 13 (v:=?_) ?_ ?_;rotate_left;focus (intro wS hSw;obtain ⟨s0,s1,s2,s3,s4,s5,s6,s7,s8,s9,sa,sb,sc,sd,se⟩:=hSw;go_simp;(try simp only [s0,s1,s2,s3,s4,s5,s6,s7,s8,s9,sa,sb,sc,sd,se]);(try simp only [bne_self_eq_false]);try with_reducible rfl)
   try simp only [Act.put,aS2,aS0,aS1]
   refine tkR 14 (v:=?_) ?_ ?_;rotate_left;focus (intro wS hSw;obtain ⟨s0,s1,s2,s3,s4,s5,s6,s7,s8,s9,sa,sb,sc,sd,se⟩:=hSw;go_simp;(try simp only [s0,s1,s2,s3,s4,s5,s6,s7,s8,s9,sa,sb,sc,sd,se]);(try simp only [bne_self_eq_false]);try with_reducible rfl)
   try simp only [Act.put,aS2,aS0,aS1]
   refine wpAnyR_step 15 rfl (by kernel_rfl) (fun K hK=>?_)
   go_simp
   go_at_call 14
   refine (HSM.out _ HBR.out).mono ?_
   rintro r wC ⟨rfl,hbC⟩
   have hbC:=HBR.out.trans (hbC.mono HBR.out.size)
   have HRC:=HRS.out _ hbC
   have HQC:=lH (HQ8.out.low hbC)
   go_wp2_with fail
   refine hK.out _ _ HRC (fun hHeld=>?_)
   clear hK K
   try simp only [Act.put,aS2,aS0,aS1]
   refine tkR 16 (v:=?_) ?_ ?_;rotate_left;focus (intro wS hSw;obtain ⟨s0,s1,s2,s3,s4,s5,s6,s7,s8,s9,sa,sb,sc,sd,se⟩:=hSw;go_simp;(try simp only [s0,s1,s2,s3,s4,s5,s6,s7,s8,s9,sa,sb,sc,sd,se]);(try simp only [bne_self_eq_false]);try with_reducible rfl)
   try simp only [Act.put,aS2,aS0,aS1]
   refine tkR 17 (v:=?_) ?_ ?_;rotate_left;focus (intro wS hSw;obtain ⟨s0,s1,s2,s3,s4,s5,s6,s7,s8,s9,sa,sb,sc,sd,se⟩:=hSw;go_simp;(try simp only [s0,s1,s2,s3,s4,s5,s6,s7,s8,s9,sa,sb,sc,sd,se]);(try simp only [bne_self_eq_false]);try with_reducible rfl)
   try simp only [Act.put,aS2,aS0,aS1]
   refine tkR 18 (v:=?_) ?_ ?_;rotate_left;focus (intro wS hSw;obtain ⟨s0,s1,s2,s3,s4,s5,s6,s7,s8,s9,sa,sb,sc,sd,se⟩:=hSw;go_simp;(try simp only [s0,s1,s2,s3,s4,s5,s6,s7,s8,s9,sa,sb,sc,sd,se]);(try simp only [bne_self_eq_false]);try with_reducible rfl)
   try simp only [Act.put,aS2,aS0,aS1]
   refine tkR 19 (v:=?_) ?_ ?_;rotate_left;focus (intro wS hSw;obtain ⟨s0,s1,s2,s3,s4,s5,s6,s7,s8,s9,sa,sb,sc,sd,se⟩:=hSw;go_simp;(try simp only [s0,s1,s2,s3,s4,s5,s6,s7,s8,s9,sa,sb,sc,sd,se]);(try simp only [bne_self_eq_false]);try with_reducible rfl)
   try simp only [Act.put,aS2,aS0,aS1]
   refine tkR 21 (v:=?_) ?_ ?_;rotate_left;focus (intro wS hSw;obtain ⟨s0,s1,s2,s3,s4,s5,s6,s7,s8,s9,sa,sb,sc,sd,se⟩:=hSw;go_simp;(try simp only [s0,s1,s2,s3,s4,s5,s6,s7,s8,s9,sa,sb,sc,sd,se]);(try simp only [bne_self_eq_false]);try with_reducible rfl)
   try simp only [Act.put,aS2,aS0,aS1]
   refine tkR 22 (v:=?_) ?_ ?_;rotate_left;focus (intro wS hSw;obtain ⟨s0,s1,s2,s3,s4,s5,s6,s7,s8,s9,sa,sb,sc,sd,se⟩:=hSw;go_simp;(try simp only [s0,s1,s2,s3,s4,s5,s6,s7,s8,s9,sa,sb,sc,sd,se]);(try simp only [bne_self_eq_false]);try with_reducible rfl)
   try simp only [Act.put,aS2,aS0,aS1]
   refine tkR 23 (v:=?_) ?_ ?_;rotate_left;focus (intro wS hSw;obtain ⟨s0,s1,s2,s3,s4,s5,s6,s7,s8,s9,sa,sb,sc,sd,se⟩:=hSw;go_simp;(try simp only [s0,s1,s2,s3,s4,s5,s6,s7,s8,s9,sa,sb,sc,sd,se]);(try simp only [bne_self_eq_false]);try with_reducible rfl)
   try simp only [Act.put,aS2,aS0,aS1]
   refine tkR 24 (v:=?_) ?_ ?_;rotate_left;focus (intro wS hSw;obtain ⟨s0,s1,s2,s3,s4,s5,s6,s7,s8,s9,sa,sb,sc,sd,se⟩:=hSw;go_simp;(try simp only [s0,s1,s2,s3,s4,s5,s6,s7,s8,s9,sa,sb,sc,sd,se]);(try simp only [bne_self_eq_false]);try with_reducible rfl)
   try simp only [Act.put,aS2,aS0,aS1]
   refine tkR 25 (v:=?_) ?_ ?_;rotate_left;focus (intro wS hSw;obtain ⟨s0,s1,s2,s3,s4,s5,s6,s7,s8,s9,sa,sb,sc,sd,se⟩:=hSw;go_simp;(try simp only [s0,s1,s2,s3,s4,s5,s6,s7,s8,s9,sa,sb,sc,sd,se]);(try simp only [bne_self_eq_false]);try with_reducible rfl)
   try simp only [Act.put,aS2,aS0,aS1]
   refine wpAnyR_step 20 rfl (by kernel_rfl) (fun K hK=>?_)
   go_simp
   go_at_call 15
   refine (pAtC HQC.out.px).mono ?_
   rintro r wD ⟨rfl,rfl⟩
   go_wp2_with fail
   refine hK.out _ _ HRC (fun hHeld=>?_)
   clear hK K
   try simp only [Act.put,aS2,aS0,aS1]
   refine tkR 26 (v:=?_) ?_ ?_;rotate_left;focus (intro wS hSw;obtain ⟨s0,s1,s2,s3,s4,s5,s6,s7,s8,s9,sa,sb,sc,sd,se⟩:=hSw;go_simp;(try simp only [s0,s1,s2,s3,s4,s5,s6,s7,s8,s9,sa,sb,sc,sd,se]);(try simp only [bne_self_eq_false]);try with_reducible rfl)
   try simp only [Act.put,aS2,aS0,aS1]
   refine tkR 27 (v:=?_) ?_ ?_;rotate_left;focus (intro wS hSw;obtain ⟨s0,s1,s2,s3,s4,s5,s6,s7,s8,s9,sa,sb,sc,sd,se⟩:=hSw;go_simp;(try simp only [s0,s1,s2,s3,s4,s5,s6,s7,s8,s9,sa,sb,sc,sd,se]);(try simp only [bne_self_eq_false]);try with_reducible rfl)
   try simp only [Act.put,aS2,aS0,aS1]
   refine wpAnyR_done (by kernel_rfl) ?_
   refine NoPanic.normal ?_
   go_wp2_with fail
   go_roundw
   case rel=>exact ⟨i + 1,q,by go_num,HQC⟩
   case measure=>simp [intOf];omega
  ·have gi:¬ (i:Int) < 2:=by omega
   have HBW:=lH HQ.out.bl
   go_wp2_with fail
   go_ret
   exact ⟨rfl,HBW.out⟩
theorem items_walk (A:Option Addr) (n c:Nat) (zs:List Int) (d:Int) (w:World) (hz:Byt w w.heap.size A n c zs) (hn:n ≤ 9223372036854775807) (lo:-9223372036854775808 ≤ d) (hi:d ≤ 9223372036854775807) :
  Calls Tryz.prog 4 #[.slice A n c,.int .i64 d] w fun e w'=>e = .returned (.bool true) ∧ Below w.heap.size w w':=by
 rcases Nat.lt_or_ge 800 n with h | h
 ·exact items_out A n c d w hn h
 ·exact items_main A n c d zs w hz h ⟨lo,hi⟩
set_option maxRecDepth 100000 in
theorem items_lifted (os:Os) (started:os.Started) (H:Type) (enc:TypeId × Value → H) :
  ReturnsInHanded {} Tryz.checked os 4 .any (Rows.parseItemsSpec.pre6 enc Tryz.prog Tryz.f4 Rows.parseItemsRow.domain false) (Rows.parseItemsSpec.post enc Tryz.prog Tryz.f4 false true false false):=by
 refine returnsInHanded_of_change (C:=Tryz.checked) own started (by kernel_rfl) Tryz.func4
  (ChangeSpec.witness6 (enc:=enc) (C:=Tryz.checked) false ⟨#[],#[.slice none 0 0,.int .i64 0],[]⟩ 8 (by kernel_rfl) (by kernel_rfl) (by kernel_rfl) (by kernel_rfl)) ?_
 intro W base args ds gs before hval0 hW hcnd _
 have hval:∀ (j:Nat) t v,Tryz.f4.params[j]? = some t → args[j]? = some v → Value.okWide Tryz.prog W .any base t v:=hval0
 have hW':=hW
 obtain ⟨p,q,hA0,hV,rfl,hfz,hnd⟩:=hW
 have hA:DataW.TrodAll enc Tryz.prog W 0 (fun _=>true) true Tryz.f4.params.toList args.toList ds p:=hA0
 rw [Tryz.params4] at hA hval
 obtain ⟨v0,vs0,d0,ds0,p0,q0,hargs,rfl,rfl,h0,r0⟩:=trodAll_cons hA
 obtain ⟨v1,vs1,d1,ds1,p1,q1,rfl,rfl,rfl,h1,r1⟩:=trodAll_cons r0
 obtain ⟨rfl,rfl,rfl⟩:=trodAll_nil r1
 obtain rfl:args = #[v0,v1]:=by cases args;simp_all
 obtain ⟨rfl,rfl⟩:=trodVars_none hV
 obtain ⟨a0,len0,cap0,rfl⟩:=okWide_slice Tryz.underlying23 (hval 0 23 v0 rfl rfl)
 obtain ⟨zs0,hz0,hcm0⟩:=open_bytes h0 (fun _=>rfl)
 have lt0:∀ x ∈ p0,x.block < W.heap.size:=by obtain ⟨m,hm⟩:=h0;exact DataW.trod_lt m _ _ _ hm
 obtain ⟨x1,rfl⟩:=okWide_int Tryz.underlying3 (hval 1 3 v1 rfl rfl)
 obtain ⟨lo1,hi1⟩:=open_intk Tryz.underlying3 h1
 rw [show IntKind.i64.min = -9223372036854775808 by decide] at lo1
 rw [show IntKind.i64.max = 9223372036854775807 by decide] at hi1
 have lt1:∀ x ∈ p1,x.block < W.heap.size:=by obtain ⟨m,hm⟩:=h1;exact DataW.trod_lt m _ _ _ hm
 have hmx:maxLen = 9223372036854775807:=by decide
 clear hA0 hval0
 refine (items_walk a0 len0 cap0 zs0 x1 W hz0 (by have:=hz0.cap;omega) lo1 hi1).mono fun e W' ⟨he,bel⟩=>?_
 subst he
 exact ⟨_,rfl,_,_,_,[],_,[],hW',trodAll_mk1 (shut_bool Tryz.underlying4 _),(trodAll_cons_mk (Below.trod laidOut (by kernel_rfl) (of_decide_eq_true (by kernel_rfl)) h0 bel lt0) (trodAll_cons_mk (Below.trod laidOut (by kernel_rfl) (of_decide_eq_true (by kernel_rfl)) h1 bel lt1) trodAll_mk0)),rfl,bel.frame _,fun h=>by cases h⟩
theorem items_holds:Rows.ParseItemsSaid :=
 OpenClaim.holds_of_wide 4 Tryz.f4 rfl rfl rfl rfl rfl rfl rfl ⟨rfl,rfl,rfl,rfl,rfl⟩ rfl rfl rfl rfl rfl (by kernel_rfl) Tryz.func4 (by kernel_rfl)
  (of_decide_eq_true (by kernel_rfl)) (by unfold Func.isWrapper;first | (rw [if_pos (by decide +kernel)];kernel_rfl) | (rw [if_neg (by decide +kernel)];exact ⟨rfl,rfl⟩))
  (fun os started H enc _=>items_lifted os started H enc)
#print axioms items_holds
end Go.Proofs.YtpomkhcobpihmaaGreat
