/- Lemmas. -/
import Derived.Deep.RegionWith
import Derived.Test.YtpomkhcobpihmaaGreatPar37
namespace Go.Proofs.YtpomkhcobpihmaaGreat
set_option maxRecDepth 100000
set_option linter.unusedVariables false
section
open Go.RowKit
theorem ObR.shp {w:World} {S:Nat → Prop}:∀ {x:Ob} {c0 c1 c2 c3 c4:Value},ObR w S x c0 c1 c2 c3 c4 → ∃ k n A2 m2 e2 A3 m3 e3 A4 m4 e4,c0 = .int .i64 k ∧ c1 = .int .i64 n ∧ c2 = .slice A2 m2 e2 ∧ c3 = .slice A3 m3 e3 ∧ c4 = .slice A4 m4 e4
 | .mk k n b l d,c0,c1,c2,c3,c4,hx=>by
  unfold ObR at hx
  obtain ⟨rfl,rfl,_,_,⟨A2,m2,e2,rfl,_⟩,⟨A3,e3,rfl,_,_⟩,⟨A4,e4,rfl,_,_⟩⟩:=hx
  exact ⟨_,_,_,_,_,_,_,_,_,_,_,rfl,rfl,rfl,rfl,rfl⟩
theorem boolC0 (w:World):Calls Tryz.prog 108 #[.bool false] w (CpP w (.mk 1 0 [] .nil .nil)):=by
 go_enter Tryz.func108,Tryz.ntmps108
 go_wp2_with fail
 refine bodyPost_ret (results_cell_row rfl _ _ w.heap.size 27 _ (0,0) _ rfl (heap_alloc_new w _) Tryz.underlying27 rfl (by kernel_rfl)) rfl ?_
 exact ⟨_,_,_,_,_,rfl,ObR.plain (by omega) (by omega) (bytS_nil _ _),(Below.refl _ _).alloc (Nat.le_refl _) _⟩
theorem wholeC {w:World} {m h g n c d p:Nat} {A:Option Addr} {zs:List Int} (x:PX w m h g A n c d zs p) (v:Int) (hv:-9223372036854775808 ≤ v ∧ v ≤ 9223372036854775807) :
  Calls Tryz.prog 84 #[.pointer (some ⟨m,0,none⟩),.int .i64 v] w (OvP m h g A n c d zs w (wholeR zs v p).x (wholeR zs v p).q):=by
 have hx0:=x.alloc (.cells #[.int .i64 0,.int .i64 0,.slice none 0 0,.slice none 0 0,.slice none 0 0] 27)
 have ho0:=(Only.refl g w).alloc (.cells #[.int .i64 0,.int .i64 0,.slice none 0 0,.slice none 0 0,.slice none 0 0] 27)
 have hr0:=RsB.new w
 obtain ⟨W0,hW0⟩:∃ W0,w.alloc (.cells #[.int .i64 0,.int .i64 0,.slice none 0 0,.slice none 0 0,.slice none 0 0] 27) = W0:=⟨_,rfl⟩
 rw [hW0] at hx0 ho0 hr0
 have HX0:=lH hx0
 have HO0:=lH ho0
 have HR0:=lH hr0
 have HW0:=lH hW0
 have HWB:Hid (w.heap.size ≤ w.heap.size):=lH (Nat.le_refl _)
 have HLT:Hid (m < w.heap.size ∧ h < w.heap.size ∧ g < w.heap.size):=lH ⟨x.lt,x.lx.lt,x.lx.cu.lt⟩
 clear hx0 ho0 hr0 hW0
 have HV:=lH hv
 have HNU:=lH (fun W=>numbersC v W)
 have HRE:=lH (refersC HX0.out)
 have HIN:=lH (fun W=>pIntC v W hv)
 have HRF:=lH (fun W=>pRefC v W hv)
 unfold wholeR
 obtain ⟨rb,hrb⟩:∃ rb,refB zs p = rb:=⟨_,rfl⟩
 obtain ⟨kp,hkp⟩:∃ kp,kwP zs (tokT zs p).q strR = kp:=⟨_,rfl⟩
 rw [hrb,hkp] at HRE
 rw [hrb,hkp]
 clear x hv hrb hkp
 by_cases hnb:1 ≤ v ∧ v ≤ 8388607
 ·rw [decide_eq_true hnb] at HNU
  cases rb
  ·rw [if_neg (by decide)] at HRE
   rw [if_neg (show ¬ ((1 ≤ v ∧ v ≤ 8388607) ∧ false = true) from fun h=>by cases h.2)]
   dsimp only
   clear hnb
   go_enter Tryz.func84,Tryz.ntmps84
   go_upto_region 1 with fail
   rw [HW0.out]
   go_wp2_with (first
    | (go_at_call 104;refine (HNU.out _).mono ?_;(rintro r w2 ⟨rfl,rfl⟩))
    | (go_at_call 105;refine HRE.out.mono ?_;(rintro r w3 ⟨rfl,hx3,ho3⟩);have HXC:=lH hx3;have HRC:=lH (HR0.out.only ho3 HLT.out.2.2);have HOC:=lH (HO0.out.trans ho3);clear hx3 ho3)
    | (go_at_call 107;refine (HIN.out _).mono ?_;
       (rintro r w5 ⟨d0,d1,d2,d3,d4,rfl,hob,hbl⟩)
       obtain ⟨k5,n5,A5,m5,e5,A6,m6,e6,A7,m7,e7,rfl,rfl,rfl,rfl,rfl⟩:=hob.shp
       have hf:=HRC.out.finN (HRC.out.low hbl) HWB.out hob (HXC.out.low hbl) (HOC.out.trans (Only.of_below hbl g)) HLT.out
       have HF:=lH hf
       obtain ⟨r0,r1,r2,r3,r4,r5⟩:=zero_cells (HRC.out.low hbl)
       clear hob hbl hf
       skip))
   refine bodyPost_ret (results_cell_row rfl _ _ w.heap.size 27 _ (0,0) _ rfl HF.out.row Tryz.underlying27 rfl (by kernel_rfl)) rfl ?_
   exact ⟨_,_,_,_,_,rfl,HF.out.ob,HF.out.px,HF.out.on⟩
  ·rw [if_pos rfl] at HRE
   rw [if_pos (show ((1 ≤ v ∧ v ≤ 8388607) ∧ true = true) from ⟨hnb,rfl⟩)]
   dsimp only
   clear hnb
   go_enter Tryz.func84,Tryz.ntmps84
   go_upto_region 1 with fail
   rw [HW0.out]
   go_wp2_with (first
    | (go_at_call 104;refine (HNU.out _).mono ?_;(rintro r w2 ⟨rfl,rfl⟩))
    | (go_at_call 105;refine HRE.out.mono ?_;(rintro r w3 ⟨rfl,hx3,ho3⟩);have HXC:=lH hx3;have HRC:=lH (HR0.out.only ho3 HLT.out.2.2);have HOC:=lH (HO0.out.trans ho3);clear hx3 ho3)
    | (go_at_call 106;refine (HRF.out _).mono ?_;
       (rintro r w5 ⟨d0,d1,d2,d3,d4,rfl,hob,hbl⟩)
       obtain ⟨k5,n5,A5,m5,e5,A6,m6,e6,A7,m7,e7,rfl,rfl,rfl,rfl,rfl⟩:=hob.shp
       have hf:=HRC.out.finN (HRC.out.low hbl) HWB.out hob (HXC.out.low hbl) (HOC.out.trans (Only.of_below hbl g)) HLT.out
       have HF:=lH hf
       obtain ⟨r0,r1,r2,r3,r4,r5⟩:=zero_cells (HRC.out.low hbl)
       clear hob hbl hf
       skip))
   refine bodyPost_ret (results_cell_row rfl _ _ w.heap.size 27 _ (0,0) _ rfl HF.out.row Tryz.underlying27 rfl (by kernel_rfl)) rfl ?_
   exact ⟨_,_,_,_,_,rfl,HF.out.ob,HF.out.px,HF.out.on⟩
 ·rw [decide_eq_false hnb] at HNU
  rw [if_neg (fun h=>hnb h.1)]
  dsimp only
  have HXC:=HX0
  have HRC:=HR0
  have HOC:=HO0
  clear hnb
  go_enter Tryz.func84,Tryz.ntmps84
  go_upto_region 1 with fail
  rw [HW0.out]
  go_wp2_with (first
   | (go_at_call 104;refine (HNU.out _).mono ?_;(rintro r w2 ⟨rfl,rfl⟩))
   | (go_at_call 107;refine (HIN.out _).mono ?_;
      (rintro r w5 ⟨d0,d1,d2,d3,d4,rfl,hob,hbl⟩)
      obtain ⟨k5,n5,A5,m5,e5,A6,m6,e6,A7,m7,e7,rfl,rfl,rfl,rfl,rfl⟩:=hob.shp
      have hf:=HRC.out.finN (HRC.out.low hbl) HWB.out hob (HXC.out.low hbl) (HOC.out.trans (Only.of_below hbl g)) HLT.out
      have HF:=lH hf
      obtain ⟨r0,r1,r2,r3,r4,r5⟩:=zero_cells (HRC.out.low hbl)
      clear hob hbl hf
      skip))
  refine bodyPost_ret (results_cell_row rfl _ _ w.heap.size 27 _ (0,0) _ rfl HF.out.row Tryz.underlying27 rfl (by kernel_rfl)) rfl ?_
  exact ⟨_,_,_,_,_,rfl,HF.out.ob,HF.out.px,HF.out.on⟩
theorem noneC (w:World):Calls Tryz.prog 22 #[] w fun r w'=>r = .returned (.agg #[.int .i64 0,.int .i64 0,.slice none 0 0,.slice none 0 0,.slice none 0 0]) ∧ Below w.heap.size w w':=by
 go_enter Tryz.func22,Tryz.ntmps22
 go_wp2_with fail
 refine bodyPost_ret (results_cell_row rfl _ _ w.heap.size 27 _ (0,0) _ rfl (heap_alloc_new w _) Tryz.underlying27 rfl (by kernel_rfl)) rfl ?_
 exact ⟨rfl,(Below.refl _ _).alloc (Nat.le_refl _) _⟩
theorem ob_nul (W:World) (S:Nat → Prop):ObR W S nulO (.int .i64 0) (.int .i64 0) (.slice none 0 0) (.slice none 0 0) (.slice none 0 0):=ObR.plain (by omega) (by omega) (bytS_nil _ _)
theorem strOf_inj {b:List Int} (hr:∀ z ∈ b,0 ≤ z ∧ z < 256) {s:ByteArray} (h:strOfNums b = s):b = strZ s:=by
 rw [← h]
 unfold strZ
 rw [strOfNums_data,List.map_map]
 refine ((List.map_congr_left fun z hz=>?_).trans (List.map_id _)).symm
 have:=hr z hz
 simp
 omega
theorem constantC {w:World} {m h g n c d p:Nat} {A:Option Addr} {zs:List Int} (x:PX w m h g A n c d zs p) (k v:Int) (a:Nat) (A':Option Addr) (l c':Nat) (b:List Int) (ha:a ≤ n) (hy:Byt w w.heap.size A' l c' b) (hk:k ≠ 0) :
  Calls Tryz.prog 88 #[.pointer (some ⟨m,0,none⟩),tkA k a v A' l c'] w (VaP m h g A n c d zs w (wordR b a p)):=by
 have hx1:=x.alloc (.cells #[.int .i64 k,.int .i64 a,.int .i64 v,.slice A' l c'] 95)
 have ho1:=(Only.refl g w).alloc (.cells #[.int .i64 k,.int .i64 a,.int .i64 v,.slice A' l c'] 95)
 have hn1:=Bx.new w 95 (.int .i64 k) (.int .i64 a) (.int .i64 v) (.slice A' l c')
 have hy1:=hy.alloc (Nat.le_refl _) (.cells #[.int .i64 k,.int .i64 a,.int .i64 v,.slice A' l c'] 95)
 obtain ⟨W1,hW1⟩:∃ W1,w.alloc (.cells #[.int .i64 k,.int .i64 a,.int .i64 v,.slice A' l c'] 95) = W1:=⟨_,rfl⟩
 have hs1:W1.heap.size = w.heap.size + 1:=by rw [← hW1];simp
 rw [hW1] at hx1 ho1 hn1 hy1
 have hx0:=hx1.alloc (.cells #[.int .i64 0,.int .i64 0,.slice none 0 0,.slice none 0 0,.slice none 0 0] 27)
 have ho0:=ho1.alloc (.cells #[.int .i64 0,.int .i64 0,.slice none 0 0,.slice none 0 0,.slice none 0 0] 27)
 have hr0:=RsB.new W1
 have hb0:=(Below.refl W1.heap.size W1).alloc (Nat.le_refl _) (.cells #[.int .i64 0,.int .i64 0,.slice none 0 0,.slice none 0 0,.slice none 0 0] 27)
 obtain ⟨W0,hW0⟩:∃ W0,W1.alloc (.cells #[.int .i64 0,.int .i64 0,.slice none 0 0,.slice none 0 0,.slice none 0 0] 27) = W0:=⟨_,rfl⟩
 rw [hW0] at hx0 ho0 hr0 hb0
 rw [hs1] at hr0
 have hn0:=hn1.below hb0 hn1.lt
 have t0:=hn0.c0
 have t1:=hn0.c1
 have t2:=hn0.c2
 have t3:=hn0.c3
 have HY0:=lH (hy1.below hb0 (by rw [hs1];exact Nat.le_succ _))
 have HXC:=lH hx0
 have HOC:=lH ho0
 have HRC:=lH hr0
 have HTB:=lH hn0
 have HW1:=lH hW1
 have HW0:=lH hW0
 have HWB:Hid (w.heap.size ≤ w.heap.size + 1):=lH (Nat.le_succ _)
 have HLT:Hid (m < w.heap.size ∧ h < w.heap.size ∧ g < w.heap.size):=lH ⟨x.lt,x.lx.lt,x.lx.cu.lt⟩
 clear hx1 ho1 hn1 hy1 hW1 hs1 hx0 ho0 hr0 hb0 hW0 hn0
 have hcv:=conv_str HY0.out _ rfl
 have HTR:=lH (fun W=>pBoolC W)
 have HFA:=lH (fun W=>boolC0 W)
 have HNO:=lH (fun W=>noneC W)
 have HWR:=lH (fun W (hW:PX W m h g A n c d zs p)=>wrongC hW k v a A' l c' ha)
 have hwz:wrgZ k = 4:=if_neg hk
 rw [hwz] at HWR
 have hrg:=hy.rng
 unfold wordR
 by_cases h1:b = [116,114,117,101]
 ·subst h1
  rw [if_pos rfl]
  rw [show strOfNums [116,114,117,101] = ⟨#[116,114,117,101]⟩ by rfl] at hcv
  clear x ha hy hk hwz hrg
  go_enter Tryz.func88,Tryz.ntmps88
  go_upto_region 1 with fail
  rw [HW1.out,HW0.out]
  go_wp2_with (first
   | (go_at_call 108;refine (HTR.out _).mono ?_;
      (rintro r w5 ⟨d0,d1,d2,d3,d4,rfl,hob,hbl⟩)
      obtain ⟨k5,n5,A5,m5,e5,A6,m6,e6,A7,m7,e7,rfl,rfl,rfl,rfl,rfl⟩:=hob.shp
      have hf:=HRC.out.finN (HRC.out.low hbl) HWB.out hob (HXC.out.low hbl) (HOC.out.trans (Only.of_below hbl g)) HLT.out
      have HF:=lH hf
      obtain ⟨r0,r1,r2,r3,r4,r5⟩:=zero_cells (HRC.out.low hbl)
      clear hob hbl hf
      skip))
  refine bodyPost_ret (results_cell_row_tmp rfl _ _ (w.heap.size + 1) 27 _ (0,0) _ rfl HF.out.row Tryz.underlying27 rfl (by kernel_rfl) _ rfl) rfl ?_
  exact ⟨_,_,_,_,_,rfl,HF.out.ob,HF.out.px,HF.out.on⟩
 by_cases h2:b = [102,97,108,115,101]
 ·subst h2
  rw [if_neg h1,if_pos rfl]
  rw [show strOfNums [102,97,108,115,101] = ⟨#[102,97,108,115,101]⟩ by rfl] at hcv
  clear x ha hy hk hwz hrg h1
  go_enter Tryz.func88,Tryz.ntmps88
  go_upto_region 1 with fail
  rw [HW1.out,HW0.out]
  go_wp2_with (first
   | (go_at_call 108;refine (HFA.out _).mono ?_;
      (rintro r w5 ⟨d0,d1,d2,d3,d4,rfl,hob,hbl⟩)
      obtain ⟨k5,n5,A5,m5,e5,A6,m6,e6,A7,m7,e7,rfl,rfl,rfl,rfl,rfl⟩:=hob.shp
      have hf:=HRC.out.finN (HRC.out.low hbl) HWB.out hob (HXC.out.low hbl) (HOC.out.trans (Only.of_below hbl g)) HLT.out
      have HF:=lH hf
      obtain ⟨r0,r1,r2,r3,r4,r5⟩:=zero_cells (HRC.out.low hbl)
      clear hob hbl hf
      skip))
  refine bodyPost_ret (results_cell_row_tmp rfl _ _ (w.heap.size + 1) 27 _ (0,0) _ rfl HF.out.row Tryz.underlying27 rfl (by kernel_rfl) _ rfl) rfl ?_
  exact ⟨_,_,_,_,_,rfl,HF.out.ob,HF.out.px,HF.out.on⟩
 by_cases h3:b = [110,117,108,108]
 ·subst h3
  rw [if_neg h1,if_neg h2,if_pos rfl]
  rw [show strOfNums [110,117,108,108] = ⟨#[110,117,108,108]⟩ by rfl] at hcv
  clear x ha hy hk hwz hrg h1 h2
  go_enter Tryz.func88,Tryz.ntmps88
  go_upto_region 1 with fail
  rw [HW1.out,HW0.out]
  go_wp2_with (first
   | (go_at_call 22;refine (HNO.out _).mono ?_;(rintro r w5 ⟨rfl,hbl⟩);have HRF:=lH (HRC.out.low hbl);have HXF:=lH (HXC.out.low hbl);have HOF:=lH (HOC.out.trans (Only.of_below hbl g));obtain ⟨r0,r1,r2,r3,r4,r5⟩:=zero_cells HRF.out;clear hbl))
  have HF:=lH (HRF.out.fin HWB.out (ob_nul _ _) HXF.out HOF.out HLT.out.1 HLT.out.2.1 HLT.out.2.2)
  refine bodyPost_ret (results_cell_row_tmp rfl _ _ (w.heap.size + 1) 27 _ (0,0) _ rfl HF.out.row Tryz.underlying27 rfl (by kernel_rfl) _ rfl) rfl ?_
  exact ⟨_,_,_,_,_,rfl,HF.out.ob,HF.out.px,HF.out.on⟩
 rw [if_neg h1,if_neg h2,if_neg h3]
 have n1:((strOfNums b).toList == ([116,114,117,101]:List UInt8)) = false:=by
  rw [show ([116,114,117,101]:List UInt8) = (⟨#[116,114,117,101]⟩:ByteArray).toList by kernel_rfl]
  exact str_ne (fun e=>h1 (strOf_inj hrg e))
 have n2:((strOfNums b).toList == ([102,97,108,115,101]:List UInt8)) = false:=by
  rw [show ([102,97,108,115,101]:List UInt8) = (⟨#[102,97,108,115,101]⟩:ByteArray).toList by kernel_rfl]
  exact str_ne (fun e=>h2 (strOf_inj hrg e))
 have n3:((strOfNums b).toList == ([110,117,108,108]:List UInt8)) = false:=by
  rw [show ([110,117,108,108]:List UInt8) = (⟨#[110,117,108,108]⟩:ByteArray).toList by kernel_rfl]
  exact str_ne (fun e=>h3 (strOf_inj hrg e))
 obtain ⟨s,hs⟩:∃ s,strOfNums b = s:=⟨_,rfl⟩
 rw [hs] at n1 n2 n3 hcv
 clear x ha hy hk hwz hrg h1 h2 h3 hs
 go_enter Tryz.func88,Tryz.ntmps88
 go_upto_region 1 with fail
 rw [HW1.out,HW0.out]
 go_upto_region 8 with fail
 have HXC:=lH (HXC.out.drewN 1)
 have HOC:=lH (HOC.out.drewN 1)
 have HRC:Hid (RsB (w.heap.size + 1) (W0.drewN 1)):=lH HRC.out
 have HTB:=lH (HTB.out.drewN 1)
 go_region_with (first
  | (go_at_call 51;refine (HWR.out _ HXC.out).mono ?_;(rintro r w6 ⟨rfl,hx6,ho6⟩);have HTB:=lH (HTB.out.only ho6 (Nat.ne_of_gt HLT.out.2.2));have HRC:=lH (HRC.out.only ho6 (Nat.lt_succ_of_lt HLT.out.2.2));have HOC:=lH (HOC.out.trans ho6);have HXC:=lH hx6;obtain ⟨r0,r1,r2,r3,r4,r5⟩:=zero_cells HRC.out;clear hx6 ho6)
  | (go_at_call 22;refine (HNO.out _).mono ?_;(rintro r w5 ⟨rfl,hbl⟩);have HTB:=lH (HTB.out.below hbl HTB.out.lt);have HRC:=lH (HRC.out.low hbl);have HOC:=lH (HOC.out.trans (Only.of_below hbl g));have HXC:=lH (HXC.out.low hbl);have t0:=HTB.out.c0;have t1:=HTB.out.c1;have t2:=HTB.out.c2;have t3:=HTB.out.c3;obtain ⟨r0,r1,r2,r3,r4,r5⟩:=zero_cells HRC.out;clear hbl))
 all_goals
  go_wp2_with fail
  have HF:=lH (HRC.out.fin HWB.out (ob_nul _ _) HXC.out HOC.out HLT.out.1 HLT.out.2.1 HLT.out.2.2)
  refine bodyPost_ret (results_cell_row_tmp rfl _ _ (w.heap.size + 1) 27 _ (0,0) _ rfl HF.out.row Tryz.underlying27 rfl (by kernel_rfl) _ rfl) rfl ?_
  exact ⟨_,_,_,_,_,rfl,HF.out.ob,HF.out.px,HF.out.on⟩
end
section
open Go.RowKit
def ItP (m h g:Nat) (A:Option Addr) (n c d:Nat) (zs:List Int) (w:World) (R:Rt) (r:Ending) (w':World):Prop :=
 ∃ (A':Option Addr) (c':Nat) (l:Obs),r = .returned (.tuple #[.slice A' l.len c',.int .i64 R.e]) ∧ (R.e = 0 → R.x = .mk 6 0 [] l .nil) ∧ (R.e ≠ 0 → R.x = nulO) ∧ ObsV w' (nwT w w') l A' c' ∧ PX w' m h g A n c d zs R.q ∧ Only g w w'
def EnP (m h g:Nat) (A:Option Addr) (n c d:Nat) (zs:List Int) (w:World) (R:Rt) (r:Ending) (w':World):Prop :=
 ∃ (A':Option Addr) (c':Nat) (l:Ens),r = .returned (.tuple #[.slice A' l.len c',.int .i64 R.e]) ∧ (R.e = 0 → R.x = .mk 7 0 [] .nil l) ∧ (R.e ≠ 0 → R.x = nulO) ∧ EnsV w' (nwT w w') l A' c' ∧ PX w' m h g A n c d zs R.q ∧ Only g w w'
section
variable {m h g n c d:Nat} {A:Option Addr} {zs:List Int} {w w':World} {R:Rt} {r:Ending}
theorem ItP.good (x:ItP m h g A n c d zs w R r w') (he:R.e = 0):∃ (A':Option Addr) (c' N:Nat) (l:Obs),r = .returned (.tuple #[.slice A' N c',.int .i64 0]) ∧ l.len = N ∧ R.x = .mk 6 0 [] l .nil ∧ ObsV w' (nwT w w') l A' c' ∧ PX w' m h g A n c d zs R.q ∧ Only g w w':=by
 obtain ⟨A',c',l,e,h0,_,hv,hp,ho⟩:=x
 rw [he] at e
 exact ⟨A',c',_,l,e,rfl,h0 he,hv,hp,ho⟩
theorem ItP.bad (x:ItP m h g A n c d zs w R r w') (he:R.e ≠ 0):∃ (A':Option Addr) (c' N:Nat),r = .returned (.tuple #[.slice A' N c',.int .i64 R.e]) ∧ R.x = nulO ∧ PX w' m h g A n c d zs R.q ∧ Only g w w':=by
 obtain ⟨A',c',l,e,_,h0,hv,hp,ho⟩:=x
 exact ⟨A',c',_,e,h0 he,hp,ho⟩
theorem EnP.good (x:EnP m h g A n c d zs w R r w') (he:R.e = 0):∃ (A':Option Addr) (c' N:Nat) (l:Ens),r = .returned (.tuple #[.slice A' N c',.int .i64 0]) ∧ l.len = N ∧ R.x = .mk 7 0 [] .nil l ∧ EnsV w' (nwT w w') l A' c' ∧ PX w' m h g A n c d zs R.q ∧ Only g w w':=by
 obtain ⟨A',c',l,e,h0,_,hv,hp,ho⟩:=x
 rw [he] at e
 exact ⟨A',c',_,l,e,rfl,h0 he,hv,hp,ho⟩
theorem EnP.bad (x:EnP m h g A n c d zs w R r w') (he:R.e ≠ 0):∃ (A':Option Addr) (c' N:Nat),r = .returned (.tuple #[.slice A' N c',.int .i64 R.e]) ∧ R.x = nulO ∧ PX w' m h g A n c d zs R.q ∧ Only g w w':=by
 obtain ⟨A',c',l,e,_,h0,hv,hp,ho⟩:=x
 exact ⟨A',c',_,e,h0 he,hp,ho⟩
theorem ob_arr {W:World} {S:Nat → Prop} {l:Obs} {A':Option Addr} {c' N:Nat} (hv:ObsV W S l A' c') (hN:l.len = N):ObR W S (.mk 6 0 [] l .nil) (.int .i64 6) (.int .i64 0) (.slice none 0 0) (.slice A' N c') (.slice none 0 0):=by
 subst hN
 unfold ObR
 exact ⟨rfl,rfl,by omega,by omega,⟨none,0,0,rfl,bytS_nil _ _⟩,⟨A',c',rfl,hv.1,hv.2⟩,⟨none,0,rfl,by simp [Ens.len],fun h=>absurd h (by simp [Ens.len])⟩⟩
theorem ob_dic {W:World} {S:Nat → Prop} {l:Ens} {A':Option Addr} {c' N:Nat} (hv:EnsV W S l A' c') (hN:l.len = N):ObR W S (.mk 7 0 [] .nil l) (.int .i64 7) (.int .i64 0) (.slice none 0 0) (.slice none 0 0) (.slice A' N c'):=by
 subst hN
 unfold ObR
 exact ⟨rfl,rfl,by omega,by omega,⟨none,0,0,rfl,bytS_nil _ _⟩,⟨none,0,rfl,by simp [Obs.len],fun h=>absurd h (by simp [Obs.len])⟩,⟨A',c',rfl,hv.1,hv.2⟩⟩
end
theorem within5 {w:World} {m h g n c d p:Nat} {A:Option Addr} {zs:List Int} (x:PX w m h g A n c d zs p) (v:Int) (a dd:Nat) (A':Option Addr) (l c':Nat) (b:List Int) (R:Rt) (hy:Byt w w.heap.size A' l c' b)
  (HI:∀ W,PX W m h g A n c d zs p → Calls Tryz.prog 109 #[.pointer (some ⟨m,0,none⟩),.int .i64 dd] W (ItP m h g A n c d zs W R)) :
  Calls Tryz.prog 89 #[.pointer (some ⟨m,0,none⟩),tkA 5 a v A' l c',.int .i64 dd] w (VaP m h g A n c d zs w R):=by
 obtain ⟨k,hk⟩:∃ k:Int,k = 5:=⟨_,rfl⟩
 rw [← hk]
 have hx1:=x.alloc (.cells #[.int .i64 k,.int .i64 a,.int .i64 v,.slice A' l c'] 95)
 have ho1:=(Only.refl g w).alloc (.cells #[.int .i64 k,.int .i64 a,.int .i64 v,.slice A' l c'] 95)
 have hn1:=Bx.new w 95 (.int .i64 k) (.int .i64 a) (.int .i64 v) (.slice A' l c')
 have hy1:=hy.alloc (Nat.le_refl _) (.cells #[.int .i64 k,.int .i64 a,.int .i64 v,.slice A' l c'] 95)
 obtain ⟨W1,hW1⟩:∃ W1,w.alloc (.cells #[.int .i64 k,.int .i64 a,.int .i64 v,.slice A' l c'] 95) = W1:=⟨_,rfl⟩
 have hs1:W1.heap.size = w.heap.size + 1:=by rw [← hW1];simp
 rw [hW1] at hx1 ho1 hn1 hy1
 have hx0:=hx1.alloc (.cells #[.int .i64 0,.int .i64 0,.slice none 0 0,.slice none 0 0,.slice none 0 0] 27)
 have ho0:=ho1.alloc (.cells #[.int .i64 0,.int .i64 0,.slice none 0 0,.slice none 0 0,.slice none 0 0] 27)
 have hr0:=RsB.new W1
 have hb0:=(Below.refl W1.heap.size W1).alloc (Nat.le_refl _) (.cells #[.int .i64 0,.int .i64 0,.slice none 0 0,.slice none 0 0,.slice none 0 0] 27)
 obtain ⟨W0,hW0⟩:∃ W0,W1.alloc (.cells #[.int .i64 0,.int .i64 0,.slice none 0 0,.slice none 0 0,.slice none 0 0] 27) = W0:=⟨_,rfl⟩
 rw [hW0] at hx0 ho0 hr0 hb0
 rw [hs1] at hr0
 have hn0:=hn1.below hb0 hn1.lt
 have t0:=hn0.c0
 have t1:=hn0.c1
 have t2:=hn0.c2
 have t3:=hn0.c3
 have HY0:=lH (hy1.below hb0 (by rw [hs1];exact Nat.le_succ _))
 have HXC:=lH hx0
 have HOC:=lH ho0
 have HRC:=lH hr0
 have HTB:=lH hn0
 have HW1:=lH hW1
 have HW0:=lH hW0
 have HWB:Hid (w.heap.size ≤ w.heap.size + 1):=lH (Nat.le_succ _)
 have HLT:Hid (m < w.heap.size ∧ h < w.heap.size ∧ g < w.heap.size):=lH ⟨x.lt,x.lx.lt,x.lx.cu.lt⟩
 clear hx1 ho1 hn1 hy1 hW1 hs1 hx0 ho0 hr0 hb0 hW0 hn0
 subst hk
 have HNO:=lH (fun W=>noneC W)
 have HIT:=lH (HI W0 HXC.out)
 clear x hy HI HY0
 by_cases he:R.e = 0
 ·have HIT2:=lH (HIT.out.mono fun _ _ hh=>hh.good he)
  clear HIT
  obtain ⟨E,X,q⟩:=R
  dsimp only at he HIT2
  subst he
  go_enter Tryz.func89,Tryz.ntmps89
  go_upto_region 1 with fail
  rw [HW1.out,HW0.out]
  go_wp2_with (first
   | (go_at_call 109;refine HIT2.out.mono ?_;(rintro r w5 ⟨A5,c5,N5,l5,rfl,hN5,hX5,hv5,hx5,ho5⟩);have HRF:=lH (HRC.out.only ho5 (Nat.lt_succ_of_lt HLT.out.2.2));obtain ⟨r0,r1,r2,r3,r4,r5⟩:=zero_cells HRF.out;have HF:=lH (RsB.finN (w:=w) HRC.out HRF.out HWB.out (ob_arr hv5 hN5) hx5 (HOC.out.trans ho5) HLT.out);have HXE:=lH hX5;clear hN5 hX5 hv5 hx5 ho5))
  refine bodyPost_ret (results_cell_row_tmp rfl _ _ (w.heap.size + 1) 27 _ (0,0) _ rfl HF.out.row Tryz.underlying27 rfl (by kernel_rfl) _ rfl) rfl ?_
  exact ⟨_,_,_,_,_,rfl,by have hh:=HF.out.ob;rw [HXE.out];exact hh,HF.out.px,HF.out.on⟩
 ·have HIT2:=lH (HIT.out.mono fun _ _ hh=>hh.bad he)
  clear HIT
  obtain ⟨E,X,q⟩:=R
  dsimp only at he HIT2
  have heb:(E == 0) = false:=beq_eq_false_iff_ne.2 he
  clear he
  go_enter Tryz.func89,Tryz.ntmps89
  go_upto_region 1 with fail
  rw [HW1.out,HW0.out]
  go_wp2_with (first
   | (go_at_call 109;refine HIT2.out.mono ?_;(rintro r w5 ⟨A5,c5,N5,rfl,hX5,hx5,ho5⟩);have HRC:=lH (HRC.out.only ho5 (Nat.lt_succ_of_lt HLT.out.2.2));have HXC:=lH hx5;have HOC:=lH (HOC.out.trans ho5);have HXE:=lH hX5;clear hX5 hx5 ho5)
   | (go_at_call 22;refine (HNO.out _).mono ?_;(rintro r w6 ⟨rfl,hbl⟩);have HRF:=lH (HRC.out.low hbl);have HXF:=lH (HXC.out.low hbl);have HOF:=lH (HOC.out.trans (Only.of_below hbl g));obtain ⟨r0,r1,r2,r3,r4,r5⟩:=zero_cells HRF.out;clear hbl))
  have HF:=lH (HRF.out.fin HWB.out (ob_nul _ _) HXF.out HOF.out HLT.out.1 HLT.out.2.1 HLT.out.2.2)
  refine bodyPost_ret (results_cell_row_tmp rfl _ _ (w.heap.size + 1) 27 _ (0,0) _ rfl HF.out.row Tryz.underlying27 rfl (by kernel_rfl) _ rfl) rfl ?_
  exact ⟨_,_,_,_,_,rfl,by have hh:=HF.out.ob;rw [HXE.out];exact hh,HF.out.px,HF.out.on⟩
theorem within7 {w:World} {m h g n c d p:Nat} {A:Option Addr} {zs:List Int} (x:PX w m h g A n c d zs p) (v:Int) (a dd:Nat) (A':Option Addr) (l c':Nat) (b:List Int) (R:Rt) (hy:Byt w w.heap.size A' l c' b)
  (HI:∀ W,PX W m h g A n c d zs p → Calls Tryz.prog 110 #[.pointer (some ⟨m,0,none⟩),.int .i64 dd] W (EnP m h g A n c d zs W R)) :
  Calls Tryz.prog 89 #[.pointer (some ⟨m,0,none⟩),tkA 7 a v A' l c',.int .i64 dd] w (VaP m h g A n c d zs w R):=by
 obtain ⟨k,hk⟩:∃ k:Int,k = 7:=⟨_,rfl⟩
 rw [← hk]
 have hx1:=x.alloc (.cells #[.int .i64 k,.int .i64 a,.int .i64 v,.slice A' l c'] 95)
 have ho1:=(Only.refl g w).alloc (.cells #[.int .i64 k,.int .i64 a,.int .i64 v,.slice A' l c'] 95)
 have hn1:=Bx.new w 95 (.int .i64 k) (.int .i64 a) (.int .i64 v) (.slice A' l c')
 have hy1:=hy.alloc (Nat.le_refl _) (.cells #[.int .i64 k,.int .i64 a,.int .i64 v,.slice A' l c'] 95)
 obtain ⟨W1,hW1⟩:∃ W1,w.alloc (.cells #[.int .i64 k,.int .i64 a,.int .i64 v,.slice A' l c'] 95) = W1:=⟨_,rfl⟩
 have hs1:W1.heap.size = w.heap.size + 1:=by rw [← hW1];simp
 rw [hW1] at hx1 ho1 hn1 hy1
 have hx0:=hx1.alloc (.cells #[.int .i64 0,.int .i64 0,.slice none 0 0,.slice none 0 0,.slice none 0 0] 27)
 have ho0:=ho1.alloc (.cells #[.int .i64 0,.int .i64 0,.slice none 0 0,.slice none 0 0,.slice none 0 0] 27)
 have hr0:=RsB.new W1
 have hb0:=(Below.refl W1.heap.size W1).alloc (Nat.le_refl _) (.cells #[.int .i64 0,.int .i64 0,.slice none 0 0,.slice none 0 0,.slice none 0 0] 27)
 obtain ⟨W0,hW0⟩:∃ W0,W1.alloc (.cells #[.int .i64 0,.int .i64 0,.slice none 0 0,.slice none 0 0,.slice none 0 0] 27) = W0:=⟨_,rfl⟩
 rw [hW0] at hx0 ho0 hr0 hb0
 rw [hs1] at hr0
 have hn0:=hn1.below hb0 hn1.lt
 have t0:=hn0.c0
 have t1:=hn0.c1
 have t2:=hn0.c2
 have t3:=hn0.c3
 have HY0:=lH (hy1.below hb0 (by rw [hs1];exact Nat.le_succ _))
 have HXC:=lH hx0
 have HOC:=lH ho0
 have HRC:=lH hr0
 have HTB:=lH hn0
 have HW1:=lH hW1
 have HW0:=lH hW0
 have HWB:Hid (w.heap.size ≤ w.heap.size + 1):=lH (Nat.le_succ _)
 have HLT:Hid (m < w.heap.size ∧ h < w.heap.size ∧ g < w.heap.size):=lH ⟨x.lt,x.lx.lt,x.lx.cu.lt⟩
 clear hx1 ho1 hn1 hy1 hW1 hs1 hx0 ho0 hr0 hb0 hW0 hn0
 subst hk
 have HNO:=lH (fun W=>noneC W)
 have HIT:=lH (HI W0 HXC.out)
 clear x hy HI HY0
 by_cases he:R.e = 0
 ·have HIT2:=lH (HIT.out.mono fun _ _ hh=>hh.good he)
  clear HIT
  obtain ⟨E,X,q⟩:=R
  dsimp only at he HIT2
  subst he
  go_enter Tryz.func89,Tryz.ntmps89
  go_upto_region 1 with fail
  rw [HW1.out,HW0.out]
  go_wp2_with (first
   | (go_at_call 110;refine HIT2.out.mono ?_;(rintro r w5 ⟨A5,c5,N5,l5,rfl,hN5,hX5,hv5,hx5,ho5⟩);have HRF:=lH (HRC.out.only ho5 (Nat.lt_succ_of_lt HLT.out.2.2));obtain ⟨r0,r1,r2,r3,r4,r5⟩:=zero_cells HRF.out;have HF:=lH (RsB.finN (w:=w) HRC.out HRF.out HWB.out (ob_dic hv5 hN5) hx5 (HOC.out.trans ho5) HLT.out);have HXE:=lH hX5;clear hN5 hX5 hv5 hx5 ho5))
  refine bodyPost_ret (results_cell_row_tmp rfl _ _ (w.heap.size + 1) 27 _ (0,0) _ rfl HF.out.row Tryz.underlying27 rfl (by kernel_rfl) _ rfl) rfl ?_
  exact ⟨_,_,_,_,_,rfl,by have hh:=HF.out.ob;rw [HXE.out];exact hh,HF.out.px,HF.out.on⟩
 ·have HIT2:=lH (HIT.out.mono fun _ _ hh=>hh.bad he)
  clear HIT
  obtain ⟨E,X,q⟩:=R
  dsimp only at he HIT2
  have heb:(E == 0) = false:=beq_eq_false_iff_ne.2 he
  clear he
  go_enter Tryz.func89,Tryz.ntmps89
  go_upto_region 1 with fail
  rw [HW1.out,HW0.out]
  go_wp2_with (first
   | (go_at_call 110;refine HIT2.out.mono ?_;(rintro r w5 ⟨A5,c5,N5,rfl,hX5,hx5,ho5⟩);have HRC:=lH (HRC.out.only ho5 (Nat.lt_succ_of_lt HLT.out.2.2));have HXC:=lH hx5;have HOC:=lH (HOC.out.trans ho5);have HXE:=lH hX5;clear hX5 hx5 ho5)
   | (go_at_call 22;refine (HNO.out _).mono ?_;(rintro r w6 ⟨rfl,hbl⟩);have HRF:=lH (HRC.out.low hbl);have HXF:=lH (HXC.out.low hbl);have HOF:=lH (HOC.out.trans (Only.of_below hbl g));obtain ⟨r0,r1,r2,r3,r4,r5⟩:=zero_cells HRF.out;clear hbl))
  have HF:=lH (HRF.out.fin HWB.out (ob_nul _ _) HXF.out HOF.out HLT.out.1 HLT.out.2.1 HLT.out.2.2)
  refine bodyPost_ret (results_cell_row_tmp rfl _ _ (w.heap.size + 1) 27 _ (0,0) _ rfl HF.out.row Tryz.underlying27 rfl (by kernel_rfl) _ rfl) rfl ?_
  exact ⟨_,_,_,_,_,rfl,by have hh:=HF.out.ob;rw [HXE.out];exact hh,HF.out.px,HF.out.on⟩
end
section
open Go.RowKit
theorem begWhole {w:World} {m h g n c d p:Nat} {A:Option Addr} {zs:List Int} (x:PX w m h g A n c d zs p) (v:Int) (a dd:Nat) (A':Option Addr) (l c':Nat) (b:List Int) (hy:Byt w w.heap.size A' l c' b) (hv:-9223372036854775808 ≤ v ∧ v ≤ 9223372036854775807) :
  Calls Tryz.prog 62 #[.pointer (some ⟨m,0,none⟩),tkA 1 a v A' l c',.int .i64 dd] w (VaP m h g A n c d zs w (wholeR zs v p)):=by
 obtain ⟨k,hk⟩:∃ k:Int,k = 1:=⟨_,rfl⟩
 rw [← hk]
 have hx1:=x.alloc (.cells #[.int .i64 k,.int .i64 a,.int .i64 v,.slice A' l c'] 95)
 have ho1:=(Only.refl g w).alloc (.cells #[.int .i64 k,.int .i64 a,.int .i64 v,.slice A' l c'] 95)
 have hn1:=Bx.new w 95 (.int .i64 k) (.int .i64 a) (.int .i64 v) (.slice A' l c')
 have hy1:=hy.alloc (Nat.le_refl _) (.cells #[.int .i64 k,.int .i64 a,.int .i64 v,.slice A' l c'] 95)
 obtain ⟨W1,hW1⟩:∃ W1,w.alloc (.cells #[.int .i64 k,.int .i64 a,.int .i64 v,.slice A' l c'] 95) = W1:=⟨_,rfl⟩
 have hs1:W1.heap.size = w.heap.size + 1:=by rw [← hW1];simp
 rw [hW1] at hx1 ho1 hn1 hy1
 have hx0:=hx1.alloc (.cells #[.int .i64 0,.int .i64 0,.slice none 0 0,.slice none 0 0,.slice none 0 0] 27)
 have ho0:=ho1.alloc (.cells #[.int .i64 0,.int .i64 0,.slice none 0 0,.slice none 0 0,.slice none 0 0] 27)
 have hr0:=RsB.new W1
 have hb0:=(Below.refl W1.heap.size W1).alloc (Nat.le_refl _) (.cells #[.int .i64 0,.int .i64 0,.slice none 0 0,.slice none 0 0,.slice none 0 0] 27)
 obtain ⟨W0,hW0⟩:∃ W0,W1.alloc (.cells #[.int .i64 0,.int .i64 0,.slice none 0 0,.slice none 0 0,.slice none 0 0] 27) = W0:=⟨_,rfl⟩
 rw [hW0] at hx0 ho0 hr0 hb0
 rw [hs1] at hr0
 have hn0:=hn1.below hb0 hn1.lt
 have t0:=hn0.c0
 have t1:=hn0.c1
 have t2:=hn0.c2
 have t3:=hn0.c3
 have HY0:=lH (hy1.below hb0 (by rw [hs1];exact Nat.le_succ _))
 have HXC:=lH hx0
 have HOC:=lH ho0
 have HRC:=lH hr0
 have HTB:=lH hn0
 have HW1:=lH hW1
 have HW0:=lH hW0
 have HWB:Hid (w.heap.size ≤ w.heap.size + 1):=lH (Nat.le_succ _)
 have HLT:Hid (m < w.heap.size ∧ h < w.heap.size ∧ g < w.heap.size):=lH ⟨x.lt,x.lx.lt,x.lx.cu.lt⟩
 clear hx1 ho1 hn1 hy1 hW1 hs1 hx0 ho0 hr0 hb0 hW0 hn0
 subst hk
 have HWH:=lH (wholeC HXC.out v hv)
 have hE:=wholeR_e zs v p
 obtain ⟨R,hR⟩:∃ R,wholeR zs v p = R:=⟨_,rfl⟩
 rw [hR] at HWH hE ⊢
 obtain ⟨E,X,q⟩:=R
 dsimp only at HWH hE
 subst hE
 clear x hy hv hR HY0
 go_enter Tryz.func62,Tryz.ntmps62
 go_upto_region 1 with fail
 rw [HW1.out,HW0.out]
 go_wp2_with (first
  | (go_at_call 84;refine HWH.out.mono ?_;(rintro r w5 ⟨d0,d1,d2,d3,d4,hrr,hob,hx5,ho5⟩);
     (try dsimp only at hrr hob hx5)
     subst hrr
     obtain ⟨k5,n5,A5,m5,e5,A6,m6,e6,A7,m7,e7,rfl,rfl,rfl,rfl,rfl⟩:=hob.shp
     have HRF:=lH (HRC.out.only ho5 (Nat.lt_succ_of_lt HLT.out.2.2))
     obtain ⟨r0,r1,r2,r3,r4,r5⟩:=zero_cells HRF.out
     have HF:=lH (RsB.finN (w:=w) HRC.out HRF.out HWB.out hob hx5 (HOC.out.trans ho5) HLT.out)
     clear hob hx5 ho5
     skip))
 refine bodyPost_ret (results_cell_row_tmp rfl _ _ (w.heap.size + 1) 27 _ (0,0) _ rfl HF.out.row Tryz.underlying27 rfl (by kernel_rfl) _ rfl) rfl ?_
 exact ⟨_,_,_,_,_,rfl,HF.out.ob,HF.out.px,HF.out.on⟩
theorem begReal {w:World} {m h g n c d p:Nat} {A:Option Addr} {zs:List Int} (x:PX w m h g A n c d zs p) (v:Int) (a dd:Nat) (A':Option Addr) (l c':Nat) (b:List Int) (hy:Byt w w.heap.size A' l c' b) (hv:-9223372036854775808 ≤ v ∧ v ≤ 9223372036854775807) :
  Calls Tryz.prog 62 #[.pointer (some ⟨m,0,none⟩),tkA 2 a v A' l c',.int .i64 dd] w (VaP m h g A n c d zs w ⟨0,.mk 3 v [] .nil .nil,p⟩):=by
 obtain ⟨k,hk⟩:∃ k:Int,k = 2:=⟨_,rfl⟩
 rw [← hk]
 have hx1:=x.alloc (.cells #[.int .i64 k,.int .i64 a,.int .i64 v,.slice A' l c'] 95)
 have ho1:=(Only.refl g w).alloc (.cells #[.int .i64 k,.int .i64 a,.int .i64 v,.slice A' l c'] 95)
 have hn1:=Bx.new w 95 (.int .i64 k) (.int .i64 a) (.int .i64 v) (.slice A' l c')
 have hy1:=hy.alloc (Nat.le_refl _) (.cells #[.int .i64 k,.int .i64 a,.int .i64 v,.slice A' l c'] 95)
 obtain ⟨W1,hW1⟩:∃ W1,w.alloc (.cells #[.int .i64 k,.int .i64 a,.int .i64 v,.slice A' l c'] 95) = W1:=⟨_,rfl⟩
 have hs1:W1.heap.size = w.heap.size + 1:=by rw [← hW1];simp
 rw [hW1] at hx1 ho1 hn1 hy1
 have hx0:=hx1.alloc (.cells #[.int .i64 0,.int .i64 0,.slice none 0 0,.slice none 0 0,.slice none 0 0] 27)
 have ho0:=ho1.alloc (.cells #[.int .i64 0,.int .i64 0,.slice none 0 0,.slice none 0 0,.slice none 0 0] 27)
 have hr0:=RsB.new W1
 have hb0:=(Below.refl W1.heap.size W1).alloc (Nat.le_refl _) (.cells #[.int .i64 0,.int .i64 0,.slice none 0 0,.slice none 0 0,.slice none 0 0] 27)
 obtain ⟨W0,hW0⟩:∃ W0,W1.alloc (.cells #[.int .i64 0,.int .i64 0,.slice none 0 0,.slice none 0 0,.slice none 0 0] 27) = W0:=⟨_,rfl⟩
 rw [hW0] at hx0 ho0 hr0 hb0
 rw [hs1] at hr0
 have hn0:=hn1.below hb0 hn1.lt
 have t0:=hn0.c0
 have t1:=hn0.c1
 have t2:=hn0.c2
 have t3:=hn0.c3
 have HY0:=lH (hy1.below hb0 (by rw [hs1];exact Nat.le_succ _))
 have HXC:=lH hx0
 have HOC:=lH ho0
 have HRC:=lH hr0
 have HTB:=lH hn0
 have HW1:=lH hW1
 have HW0:=lH hW0
 have HWB:Hid (w.heap.size ≤ w.heap.size + 1):=lH (Nat.le_succ _)
 have HLT:Hid (m < w.heap.size ∧ h < w.heap.size ∧ g < w.heap.size):=lH ⟨x.lt,x.lx.lt,x.lx.cu.lt⟩
 clear hx1 ho1 hn1 hy1 hW1 hs1 hx0 ho0 hr0 hb0 hW0 hn0
 subst hk
 have HRL:=lH (fun W=>pRealC v W hv)
 clear x hy hv HY0
 go_enter Tryz.func62,Tryz.ntmps62
 go_upto_region 1 with fail
 rw [HW1.out,HW0.out]
 go_wp2_with (first
  | (go_at_call 85;refine (HRL.out _).mono ?_;
     (rintro r w5 ⟨d0,d1,d2,d3,d4,rfl,hob,hbl⟩)
     obtain ⟨k5,n5,A5,m5,e5,A6,m6,e6,A7,m7,e7,rfl,rfl,rfl,rfl,rfl⟩:=hob.shp
     have hf:=HRC.out.finN (HRC.out.low hbl) HWB.out hob (HXC.out.low hbl) (HOC.out.trans (Only.of_below hbl g)) HLT.out
     have HF:=lH hf
     obtain ⟨r0,r1,r2,r3,r4,r5⟩:=zero_cells (HRC.out.low hbl)
     clear hob hbl hf
     skip))
 refine bodyPost_ret (results_cell_row_tmp rfl _ _ (w.heap.size + 1) 27 _ (0,0) _ rfl HF.out.row Tryz.underlying27 rfl (by kernel_rfl) _ rfl) rfl ?_
 exact ⟨_,_,_,_,_,rfl,HF.out.ob,HF.out.px,HF.out.on⟩
theorem begText {w:World} {m h g n c d p:Nat} {A:Option Addr} {zs:List Int} (x:PX w m h g A n c d zs p) (v:Int) (a dd:Nat) (A':Option Addr) (l c':Nat) (b:List Int) (hy:Byt w w.heap.size A' l c' b) (hl:l ≤ 1000000) :
  Calls Tryz.prog 62 #[.pointer (some ⟨m,0,none⟩),tkA 3 a v A' l c',.int .i64 dd] w (VaP m h g A n c d zs w ⟨0,.mk 4 0 b .nil .nil,p⟩):=by
 obtain ⟨k,hk⟩:∃ k:Int,k = 3:=⟨_,rfl⟩
 rw [← hk]
 have hx1:=x.alloc (.cells #[.int .i64 k,.int .i64 a,.int .i64 v,.slice A' l c'] 95)
 have ho1:=(Only.refl g w).alloc (.cells #[.int .i64 k,.int .i64 a,.int .i64 v,.slice A' l c'] 95)
 have hn1:=Bx.new w 95 (.int .i64 k) (.int .i64 a) (.int .i64 v) (.slice A' l c')
 have hy1:=hy.alloc (Nat.le_refl _) (.cells #[.int .i64 k,.int .i64 a,.int .i64 v,.slice A' l c'] 95)
 obtain ⟨W1,hW1⟩:∃ W1,w.alloc (.cells #[.int .i64 k,.int .i64 a,.int .i64 v,.slice A' l c'] 95) = W1:=⟨_,rfl⟩
 have hs1:W1.heap.size = w.heap.size + 1:=by rw [← hW1];simp
 rw [hW1] at hx1 ho1 hn1 hy1
 have hx0:=hx1.alloc (.cells #[.int .i64 0,.int .i64 0,.slice none 0 0,.slice none 0 0,.slice none 0 0] 27)
 have ho0:=ho1.alloc (.cells #[.int .i64 0,.int .i64 0,.slice none 0 0,.slice none 0 0,.slice none 0 0] 27)
 have hr0:=RsB.new W1
 have hb0:=(Below.refl W1.heap.size W1).alloc (Nat.le_refl _) (.cells #[.int .i64 0,.int .i64 0,.slice none 0 0,.slice none 0 0,.slice none 0 0] 27)
 obtain ⟨W0,hW0⟩:∃ W0,W1.alloc (.cells #[.int .i64 0,.int .i64 0,.slice none 0 0,.slice none 0 0,.slice none 0 0] 27) = W0:=⟨_,rfl⟩
 rw [hW0] at hx0 ho0 hr0 hb0
 rw [hs1] at hr0
 have hn0:=hn1.below hb0 hn1.lt
 have t0:=hn0.c0
 have t1:=hn0.c1
 have t2:=hn0.c2
 have t3:=hn0.c3
 have HY0:=lH (hy1.below hb0 (by rw [hs1];exact Nat.le_succ _))
 have HXC:=lH hx0
 have HOC:=lH ho0
 have HRC:=lH hr0
 have HTB:=lH hn0
 have HW1:=lH hW1
 have HW0:=lH hW0
 have HWB:Hid (w.heap.size ≤ w.heap.size + 1):=lH (Nat.le_succ _)
 have HLT:Hid (m < w.heap.size ∧ h < w.heap.size ∧ g < w.heap.size):=lH ⟨x.lt,x.lx.lt,x.lx.cu.lt⟩
 clear hx1 ho1 hn1 hy1 hW1 hs1 hx0 ho0 hr0 hb0 hW0 hn0
 subst hk
 have hbs:BytS W0 (fun y=>y < W0.heap.size) A' b.length c' b:=by
  have hh:=HY0.out
  have hlen:=hh.len
  exact ⟨rfl,⟨by have:=hh.cap;omega,by omega⟩,hh.rng,fun h0=>by
   obtain ⟨b',o,e,hlt,hc⟩:=hh.cell (by omega)
   exact ⟨b',o,e,by have:=HRC.out.lt;omega,fun i hi=>hc i (by omega)⟩⟩
 have hst:=pStrC A' c' b _ W0 hbs (fun _ hg=>hg) (by have:=hy.len;omega)
 rw [hy.len] at hst
 have HST:=lH hst
 clear x hy hbs hst HY0 hl
 go_enter Tryz.func62,Tryz.ntmps62
 go_upto_region 1 with fail
 rw [HW1.out,HW0.out]
 go_wp2_with (first
  | (go_at_call 86;refine HST.out.mono ?_;
     (rintro r w5 ⟨d0,d1,d2,d3,d4,rfl,hob,hbl⟩)
     obtain ⟨k5,n5,A5,m5,e5,A6,m6,e6,A7,m7,e7,rfl,rfl,rfl,rfl,rfl⟩:=hob.shp
     have hf:=HRC.out.finN (HRC.out.low hbl) HWB.out hob (HXC.out.low hbl) (HOC.out.trans (Only.of_below hbl g)) HLT.out
     have HF:=lH hf
     obtain ⟨r0,r1,r2,r3,r4,r5⟩:=zero_cells (HRC.out.low hbl)
     clear hob hbl hf
     skip))
 refine bodyPost_ret (results_cell_row_tmp rfl _ _ (w.heap.size + 1) 27 _ (0,0) _ rfl HF.out.row Tryz.underlying27 rfl (by kernel_rfl) _ rfl) rfl ?_
 exact ⟨_,_,_,_,_,rfl,HF.out.ob,HF.out.px,HF.out.on⟩
theorem begName {w:World} {m h g n c d p:Nat} {A:Option Addr} {zs:List Int} (x:PX w m h g A n c d zs p) (v:Int) (a dd:Nat) (A':Option Addr) (l c':Nat) (b:List Int) (hy:Byt w w.heap.size A' l c' b) (hl:l ≤ 1000000) :
  Calls Tryz.prog 62 #[.pointer (some ⟨m,0,none⟩),tkA 4 a v A' l c',.int .i64 dd] w (VaP m h g A n c d zs w ⟨0,.mk 5 0 b .nil .nil,p⟩):=by
 obtain ⟨k,hk⟩:∃ k:Int,k = 4:=⟨_,rfl⟩
 rw [← hk]
 have hx1:=x.alloc (.cells #[.int .i64 k,.int .i64 a,.int .i64 v,.slice A' l c'] 95)
 have ho1:=(Only.refl g w).alloc (.cells #[.int .i64 k,.int .i64 a,.int .i64 v,.slice A' l c'] 95)
 have hn1:=Bx.new w 95 (.int .i64 k) (.int .i64 a) (.int .i64 v) (.slice A' l c')
 have hy1:=hy.alloc (Nat.le_refl _) (.cells #[.int .i64 k,.int .i64 a,.int .i64 v,.slice A' l c'] 95)
 obtain ⟨W1,hW1⟩:∃ W1,w.alloc (.cells #[.int .i64 k,.int .i64 a,.int .i64 v,.slice A' l c'] 95) = W1:=⟨_,rfl⟩
 have hs1:W1.heap.size = w.heap.size + 1:=by rw [← hW1];simp
 rw [hW1] at hx1 ho1 hn1 hy1
 have hx0:=hx1.alloc (.cells #[.int .i64 0,.int .i64 0,.slice none 0 0,.slice none 0 0,.slice none 0 0] 27)
 have ho0:=ho1.alloc (.cells #[.int .i64 0,.int .i64 0,.slice none 0 0,.slice none 0 0,.slice none 0 0] 27)
 have hr0:=RsB.new W1
 have hb0:=(Below.refl W1.heap.size W1).alloc (Nat.le_refl _) (.cells #[.int .i64 0,.int .i64 0,.slice none 0 0,.slice none 0 0,.slice none 0 0] 27)
 obtain ⟨W0,hW0⟩:∃ W0,W1.alloc (.cells #[.int .i64 0,.int .i64 0,.slice none 0 0,.slice none 0 0,.slice none 0 0] 27) = W0:=⟨_,rfl⟩
 rw [hW0] at hx0 ho0 hr0 hb0
 rw [hs1] at hr0
 have hn0:=hn1.below hb0 hn1.lt
 have t0:=hn0.c0
 have t1:=hn0.c1
 have t2:=hn0.c2
 have t3:=hn0.c3
 have HY0:=lH (hy1.below hb0 (by rw [hs1];exact Nat.le_succ _))
 have HXC:=lH hx0
 have HOC:=lH ho0
 have HRC:=lH hr0
 have HTB:=lH hn0
 have HW1:=lH hW1
 have HW0:=lH hW0
 have HWB:Hid (w.heap.size ≤ w.heap.size + 1):=lH (Nat.le_succ _)
 have HLT:Hid (m < w.heap.size ∧ h < w.heap.size ∧ g < w.heap.size):=lH ⟨x.lt,x.lx.lt,x.lx.cu.lt⟩
 clear hx1 ho1 hn1 hy1 hW1 hs1 hx0 ho0 hr0 hb0 hW0 hn0
 subst hk
 have hcv:=conv_str HY0.out _ rfl
 have HNM:=lH (fun W=>pNameC (strOfNums b) W (by have:=hy.len;rw [strOfNums_size];omega))
 rw [← strOf_inj hy.rng rfl] at HNM
 obtain ⟨s,hs⟩:∃ s,strOfNums b = s:=⟨_,rfl⟩
 rw [hs] at hcv HNM
 clear x hy HY0 hl hs
 go_enter Tryz.func62,Tryz.ntmps62
 go_upto_region 1 with fail
 rw [HW1.out,HW0.out]
 go_wp2_with (first
  | (go_at_call 87;refine (HNM.out _).mono ?_;
     (rintro r w5 ⟨d0,d1,d2,d3,d4,rfl,hob,hbl⟩)
     obtain ⟨k5,n5,A5,m5,e5,A6,m6,e6,A7,m7,e7,rfl,rfl,rfl,rfl,rfl⟩:=hob.shp
     have hf:=HRC.out.finN (HRC.out.low hbl) HWB.out hob (HXC.out.low hbl) (HOC.out.trans (Only.of_below hbl g)) HLT.out
     have HF:=lH hf
     obtain ⟨r0,r1,r2,r3,r4,r5⟩:=zero_cells (HRC.out.low hbl)
     clear hob hbl hf
     skip))
 refine bodyPost_ret (results_cell_row_tmp rfl _ _ (w.heap.size + 1) 27 _ (0,0) _ rfl HF.out.row Tryz.underlying27 rfl (by kernel_rfl) _ rfl) rfl ?_
 exact ⟨_,_,_,_,_,rfl,HF.out.ob,HF.out.px,HF.out.on⟩
theorem begWord {w:World} {m h g n c d p:Nat} {A:Option Addr} {zs:List Int} (x:PX w m h g A n c d zs p) (v:Int) (a dd:Nat) (A':Option Addr) (l c':Nat) (b:List Int) (hy:Byt w w.heap.size A' l c' b) (ha:a ≤ n) :
  Calls Tryz.prog 62 #[.pointer (some ⟨m,0,none⟩),tkA 9 a v A' l c',.int .i64 dd] w (VaP m h g A n c d zs w (wordR b a p)):=by
 obtain ⟨k,hk⟩:∃ k:Int,k = 9:=⟨_,rfl⟩
 rw [← hk]
 have hx1:=x.alloc (.cells #[.int .i64 k,.int .i64 a,.int .i64 v,.slice A' l c'] 95)
 have ho1:=(Only.refl g w).alloc (.cells #[.int .i64 k,.int .i64 a,.int .i64 v,.slice A' l c'] 95)
 have hn1:=Bx.new w 95 (.int .i64 k) (.int .i64 a) (.int .i64 v) (.slice A' l c')
 have hy1:=hy.alloc (Nat.le_refl _) (.cells #[.int .i64 k,.int .i64 a,.int .i64 v,.slice A' l c'] 95)
 obtain ⟨W1,hW1⟩:∃ W1,w.alloc (.cells #[.int .i64 k,.int .i64 a,.int .i64 v,.slice A' l c'] 95) = W1:=⟨_,rfl⟩
 have hs1:W1.heap.size = w.heap.size + 1:=by rw [← hW1];simp
 rw [hW1] at hx1 ho1 hn1 hy1
 have hx0:=hx1.alloc (.cells #[.int .i64 0,.int .i64 0,.slice none 0 0,.slice none 0 0,.slice none 0 0] 27)
 have ho0:=ho1.alloc (.cells #[.int .i64 0,.int .i64 0,.slice none 0 0,.slice none 0 0,.slice none 0 0] 27)
 have hr0:=RsB.new W1
 have hb0:=(Below.refl W1.heap.size W1).alloc (Nat.le_refl _) (.cells #[.int .i64 0,.int .i64 0,.slice none 0 0,.slice none 0 0,.slice none 0 0] 27)
 obtain ⟨W0,hW0⟩:∃ W0,W1.alloc (.cells #[.int .i64 0,.int .i64 0,.slice none 0 0,.slice none 0 0,.slice none 0 0] 27) = W0:=⟨_,rfl⟩
 rw [hW0] at hx0 ho0 hr0 hb0
 rw [hs1] at hr0
 have hn0:=hn1.below hb0 hn1.lt
 have t0:=hn0.c0
 have t1:=hn0.c1
 have t2:=hn0.c2
 have t3:=hn0.c3
 have HY0:=lH (hy1.below hb0 (by rw [hs1];exact Nat.le_succ _))
 have HXC:=lH hx0
 have HOC:=lH ho0
 have HRC:=lH hr0
 have HTB:=lH hn0
 have HW1:=lH hW1
 have HW0:=lH hW0
 have HWB:Hid (w.heap.size ≤ w.heap.size + 1):=lH (Nat.le_succ _)
 have HLT:Hid (m < w.heap.size ∧ h < w.heap.size ∧ g < w.heap.size):=lH ⟨x.lt,x.lx.lt,x.lx.cu.lt⟩
 clear hx1 ho1 hn1 hy1 hW1 hs1 hx0 ho0 hr0 hb0 hW0 hn0
 subst hk
 have HCN:=lH (constantC HXC.out 9 v a A' l c' b ha (HY0.out.more (Nat.le_of_lt (Nat.lt_of_succ_lt HRC.out.lt))) (by decide))
 obtain ⟨R,hR⟩:∃ R,wordR b a p = R:=⟨_,rfl⟩
 rw [hR] at HCN ⊢
 obtain ⟨E,X,q⟩:=R
 clear x hy ha hR HY0
 go_enter Tryz.func62,Tryz.ntmps62
 go_upto_region 1 with fail
 rw [HW1.out,HW0.out]
 go_wp2_with (first
  | (go_at_call 88;refine HCN.out.mono ?_;(rintro r w5 ⟨d0,d1,d2,d3,d4,hrr,hob,hx5,ho5⟩);
     (try dsimp only at hrr hob hx5)
     subst hrr
     obtain ⟨k5,n5,A5,m5,e5,A6,m6,e6,A7,m7,e7,rfl,rfl,rfl,rfl,rfl⟩:=hob.shp
     have HRF:=lH (HRC.out.only ho5 (Nat.lt_succ_of_lt HLT.out.2.2))
     obtain ⟨r0,r1,r2,r3,r4,r5⟩:=zero_cells HRF.out
     have HF:=lH (RsB.finN (w:=w) HRC.out HRF.out HWB.out hob hx5 (HOC.out.trans ho5) HLT.out)
     clear hob hx5 ho5
     skip))
 refine bodyPost_ret (results_cell_row_tmp rfl _ _ (w.heap.size + 1) 27 _ (0,0) _ rfl HF.out.row Tryz.underlying27 rfl (by kernel_rfl) _ rfl) rfl ?_
 exact ⟨_,_,_,_,_,rfl,HF.out.ob,HF.out.px,HF.out.on⟩
theorem begOpen {w:World} {m h g n c d p:Nat} {A:Option Addr} {zs:List Int} (x:PX w m h g A n c d zs p) (v:Int) (a dd:Nat) (A':Option Addr) (l c':Nat) (b:List Int) (R:Rt) (hdd:dd < 1000) (hy:Byt w w.heap.size A' l c' b)
  (HI:∀ W,PX W m h g A n c d zs p → Calls Tryz.prog 109 #[.pointer (some ⟨m,0,none⟩),.int .i64 dd] W (ItP m h g A n c d zs W R)) :
  Calls Tryz.prog 62 #[.pointer (some ⟨m,0,none⟩),tkA 5 a v A' l c',.int .i64 (dd + 1:Nat)] w (VaP m h g A n c d zs w R):=by
 obtain ⟨k,hk⟩:∃ k:Int,k = 5:=⟨_,rfl⟩
 rw [← hk]
 have hx1:=x.alloc (.cells #[.int .i64 k,.int .i64 a,.int .i64 v,.slice A' l c'] 95)
 have ho1:=(Only.refl g w).alloc (.cells #[.int .i64 k,.int .i64 a,.int .i64 v,.slice A' l c'] 95)
 have hn1:=Bx.new w 95 (.int .i64 k) (.int .i64 a) (.int .i64 v) (.slice A' l c')
 have hy1:=hy.alloc (Nat.le_refl _) (.cells #[.int .i64 k,.int .i64 a,.int .i64 v,.slice A' l c'] 95)
 obtain ⟨W1,hW1⟩:∃ W1,w.alloc (.cells #[.int .i64 k,.int .i64 a,.int .i64 v,.slice A' l c'] 95) = W1:=⟨_,rfl⟩
 have hs1:W1.heap.size = w.heap.size + 1:=by rw [← hW1];simp
 rw [hW1] at hx1 ho1 hn1 hy1
 have hx0:=hx1.alloc (.cells #[.int .i64 0,.int .i64 0,.slice none 0 0,.slice none 0 0,.slice none 0 0] 27)
 have ho0:=ho1.alloc (.cells #[.int .i64 0,.int .i64 0,.slice none 0 0,.slice none 0 0,.slice none 0 0] 27)
 have hr0:=RsB.new W1
 have hb0:=(Below.refl W1.heap.size W1).alloc (Nat.le_refl _) (.cells #[.int .i64 0,.int .i64 0,.slice none 0 0,.slice none 0 0,.slice none 0 0] 27)
 obtain ⟨W0,hW0⟩:∃ W0,W1.alloc (.cells #[.int .i64 0,.int .i64 0,.slice none 0 0,.slice none 0 0,.slice none 0 0] 27) = W0:=⟨_,rfl⟩
 rw [hW0] at hx0 ho0 hr0 hb0
 rw [hs1] at hr0
 have hn0:=hn1.below hb0 hn1.lt
 have t0:=hn0.c0
 have t1:=hn0.c1
 have t2:=hn0.c2
 have t3:=hn0.c3
 have HY0:=lH (hy1.below hb0 (by rw [hs1];exact Nat.le_succ _))
 have HXC:=lH hx0
 have HOC:=lH ho0
 have HRC:=lH hr0
 have HTB:=lH hn0
 have HW1:=lH hW1
 have HW0:=lH hW0
 have HWB:Hid (w.heap.size ≤ w.heap.size + 1):=lH (Nat.le_succ _)
 have HLT:Hid (m < w.heap.size ∧ h < w.heap.size ∧ g < w.heap.size):=lH ⟨x.lt,x.lx.lt,x.lx.cu.lt⟩
 clear hx1 ho1 hn1 hy1 hW1 hs1 hx0 ho0 hr0 hb0 hW0 hn0
 subst hk
 have HWT:=lH (within5 HXC.out v a dd A' l c' b R (HY0.out.more (Nat.le_of_lt (Nat.lt_of_succ_lt HRC.out.lt))) HI)
 obtain ⟨D,hD⟩:∃ D,dd + 1 = D:=⟨_,rfl⟩
 have e1:(D:Int) - 1 = (dd:Int):=by omega
 have e2:((D:Int) == 0) = false:=beq_eq_false_iff_ne.2 (by omega)
 have e3:IntKind.i64.wrap (dd:Int) = (dd:Int):=IntWalk.i64_in _ (by omega)
 rw [hD]
 obtain ⟨E,X,q⟩:=R
 clear x hy HY0 HI hD hdd
 go_enter Tryz.func62,Tryz.ntmps62
 go_upto_region 1 with fail
 rw [HW1.out,HW0.out]
 go_wp2_with (first
  | (go_at_call 89;refine HWT.out.mono ?_;(rintro r w5 ⟨d0,d1,d2,d3,d4,hrr,hob,hx5,ho5⟩);
     (try dsimp only at hrr hob hx5)
     subst hrr
     obtain ⟨k5,n5,A5,m5,e5,A6,m6,e6,A7,m7,e7,rfl,rfl,rfl,rfl,rfl⟩:=hob.shp
     have HRF:=lH (HRC.out.only ho5 (Nat.lt_succ_of_lt HLT.out.2.2))
     obtain ⟨r0,r1,r2,r3,r4,r5⟩:=zero_cells HRF.out
     have HF:=lH (RsB.finN (w:=w) HRC.out HRF.out HWB.out hob hx5 (HOC.out.trans ho5) HLT.out)
     clear hob hx5 ho5
     skip))
 refine bodyPost_ret (results_cell_row_tmp rfl _ _ (w.heap.size + 1) 27 _ (0,0) _ rfl HF.out.row Tryz.underlying27 rfl (by kernel_rfl) _ rfl) rfl ?_
 exact ⟨_,_,_,_,_,rfl,HF.out.ob,HF.out.px,HF.out.on⟩
theorem begLeft {w:World} {m h g n c d p:Nat} {A:Option Addr} {zs:List Int} (x:PX w m h g A n c d zs p) (v:Int) (a dd:Nat) (A':Option Addr) (l c':Nat) (b:List Int) (R:Rt) (hdd:dd < 1000) (hy:Byt w w.heap.size A' l c' b)
  (HI:∀ W,PX W m h g A n c d zs p → Calls Tryz.prog 110 #[.pointer (some ⟨m,0,none⟩),.int .i64 dd] W (EnP m h g A n c d zs W R)) :
  Calls Tryz.prog 62 #[.pointer (some ⟨m,0,none⟩),tkA 7 a v A' l c',.int .i64 (dd + 1:Nat)] w (VaP m h g A n c d zs w R):=by
 obtain ⟨k,hk⟩:∃ k:Int,k = 7:=⟨_,rfl⟩
 rw [← hk]
 have hx1:=x.alloc (.cells #[.int .i64 k,.int .i64 a,.int .i64 v,.slice A' l c'] 95)
 have ho1:=(Only.refl g w).alloc (.cells #[.int .i64 k,.int .i64 a,.int .i64 v,.slice A' l c'] 95)
 have hn1:=Bx.new w 95 (.int .i64 k) (.int .i64 a) (.int .i64 v) (.slice A' l c')
 have hy1:=hy.alloc (Nat.le_refl _) (.cells #[.int .i64 k,.int .i64 a,.int .i64 v,.slice A' l c'] 95)
 obtain ⟨W1,hW1⟩:∃ W1,w.alloc (.cells #[.int .i64 k,.int .i64 a,.int .i64 v,.slice A' l c'] 95) = W1:=⟨_,rfl⟩
 have hs1:W1.heap.size = w.heap.size + 1:=by rw [← hW1];simp
 rw [hW1] at hx1 ho1 hn1 hy1
 have hx0:=hx1.alloc (.cells #[.int .i64 0,.int .i64 0,.slice none 0 0,.slice none 0 0,.slice none 0 0] 27)
 have ho0:=ho1.alloc (.cells #[.int .i64 0,.int .i64 0,.slice none 0 0,.slice none 0 0,.slice none 0 0] 27)
 have hr0:=RsB.new W1
 have hb0:=(Below.refl W1.heap.size W1).alloc (Nat.le_refl _) (.cells #[.int .i64 0,.int .i64 0,.slice none 0 0,.slice none 0 0,.slice none 0 0] 27)
 obtain ⟨W0,hW0⟩:∃ W0,W1.alloc (.cells #[.int .i64 0,.int .i64 0,.slice none 0 0,.slice none 0 0,.slice none 0 0] 27) = W0:=⟨_,rfl⟩
 rw [hW0] at hx0 ho0 hr0 hb0
 rw [hs1] at hr0
 have hn0:=hn1.below hb0 hn1.lt
 have t0:=hn0.c0
 have t1:=hn0.c1
 have t2:=hn0.c2
 have t3:=hn0.c3
 have HY0:=lH (hy1.below hb0 (by rw [hs1];exact Nat.le_succ _))
 have HXC:=lH hx0
 have HOC:=lH ho0
 have HRC:=lH hr0
 have HTB:=lH hn0
 have HW1:=lH hW1
 have HW0:=lH hW0
 have HWB:Hid (w.heap.size ≤ w.heap.size + 1):=lH (Nat.le_succ _)
 have HLT:Hid (m < w.heap.size ∧ h < w.heap.size ∧ g < w.heap.size):=lH ⟨x.lt,x.lx.lt,x.lx.cu.lt⟩
 clear hx1 ho1 hn1 hy1 hW1 hs1 hx0 ho0 hr0 hb0 hW0 hn0
 subst hk
 have HWT:=lH (within7 HXC.out v a dd A' l c' b R (HY0.out.more (Nat.le_of_lt (Nat.lt_of_succ_lt HRC.out.lt))) HI)
 obtain ⟨D,hD⟩:∃ D,dd + 1 = D:=⟨_,rfl⟩
 have e1:(D:Int) - 1 = (dd:Int):=by omega
 have e2:((D:Int) == 0) = false:=beq_eq_false_iff_ne.2 (by omega)
 have e3:IntKind.i64.wrap (dd:Int) = (dd:Int):=IntWalk.i64_in _ (by omega)
 rw [hD]
 obtain ⟨E,X,q⟩:=R
 clear x hy HY0 HI hD hdd
 go_enter Tryz.func62,Tryz.ntmps62
 go_upto_region 1 with fail
 rw [HW1.out,HW0.out]
 go_wp2_with (first
  | (go_at_call 89;refine HWT.out.mono ?_;(rintro r w5 ⟨d0,d1,d2,d3,d4,hrr,hob,hx5,ho5⟩);
     (try dsimp only at hrr hob hx5)
     subst hrr
     obtain ⟨k5,n5,A5,m5,e5,A6,m6,e6,A7,m7,e7,rfl,rfl,rfl,rfl,rfl⟩:=hob.shp
     have HRF:=lH (HRC.out.only ho5 (Nat.lt_succ_of_lt HLT.out.2.2))
     obtain ⟨r0,r1,r2,r3,r4,r5⟩:=zero_cells HRF.out
     have HF:=lH (RsB.finN (w:=w) HRC.out HRF.out HWB.out hob hx5 (HOC.out.trans ho5) HLT.out)
     clear hob hx5 ho5
     skip))
 refine bodyPost_ret (results_cell_row_tmp rfl _ _ (w.heap.size + 1) 27 _ (0,0) _ rfl HF.out.row Tryz.underlying27 rfl (by kernel_rfl) _ rfl) rfl ?_
 exact ⟨_,_,_,_,_,rfl,HF.out.ob,HF.out.px,HF.out.on⟩
set_option maxHeartbeats 4000000 in
theorem begDeep {w:World} {m h g n c d p:Nat} {A:Option Addr} {zs:List Int} (x:PX w m h g A n c d zs p) (k v:Int) (a:Nat) (A':Option Addr) (l c':Nat) (b:List Int) (hy:Byt w w.heap.size A' l c' b) (ha:a ≤ n) (hk:k = 5 ∨ k = 7) :
  Calls Tryz.prog 62 #[.pointer (some ⟨m,0,none⟩),tkA k a v A' l c',.int .i64 0] w (VaP m h g A n c d zs w (noR 6 a)):=by
 have hx1:=x.alloc (.cells #[.int .i64 k,.int .i64 a,.int .i64 v,.slice A' l c'] 95)
 have ho1:=(Only.refl g w).alloc (.cells #[.int .i64 k,.int .i64 a,.int .i64 v,.slice A' l c'] 95)
 have hn1:=Bx.new w 95 (.int .i64 k) (.int .i64 a) (.int .i64 v) (.slice A' l c')
 have hy1:=hy.alloc (Nat.le_refl _) (.cells #[.int .i64 k,.int .i64 a,.int .i64 v,.slice A' l c'] 95)
 obtain ⟨W1,hW1⟩:∃ W1,w.alloc (.cells #[.int .i64 k,.int .i64 a,.int .i64 v,.slice A' l c'] 95) = W1:=⟨_,rfl⟩
 have hs1:W1.heap.size = w.heap.size + 1:=by rw [← hW1];simp
 rw [hW1] at hx1 ho1 hn1 hy1
 have hx0:=hx1.alloc (.cells #[.int .i64 0,.int .i64 0,.slice none 0 0,.slice none 0 0,.slice none 0 0] 27)
 have ho0:=ho1.alloc (.cells #[.int .i64 0,.int .i64 0,.slice none 0 0,.slice none 0 0,.slice none 0 0] 27)
 have hr0:=RsB.new W1
 have hb0:=(Below.refl W1.heap.size W1).alloc (Nat.le_refl _) (.cells #[.int .i64 0,.int .i64 0,.slice none 0 0,.slice none 0 0,.slice none 0 0] 27)
 obtain ⟨W0,hW0⟩:∃ W0,W1.alloc (.cells #[.int .i64 0,.int .i64 0,.slice none 0 0,.slice none 0 0,.slice none 0 0] 27) = W0:=⟨_,rfl⟩
 rw [hW0] at hx0 ho0 hr0 hb0
 rw [hs1] at hr0
 have hn0:=hn1.below hb0 hn1.lt
 have t0:=hn0.c0
 have t1:=hn0.c1
 have t2:=hn0.c2
 have t3:=hn0.c3
 have HY0:=lH (hy1.below hb0 (by rw [hs1];exact Nat.le_succ _))
 have HXC:=lH hx0
 have HOC:=lH ho0
 have HRC:=lH hr0
 have HTB:=lH hn0
 have HW1:=lH hW1
 have HW0:=lH hW0
 have HWB:Hid (w.heap.size ≤ w.heap.size + 1):=lH (Nat.le_succ _)
 have HLT:Hid (m < w.heap.size ∧ h < w.heap.size ∧ g < w.heap.size):=lH ⟨x.lt,x.lx.lt,x.lx.cu.lt⟩
 clear hx1 ho1 hn1 hy1 hW1 hs1 hx0 ho0 hr0 hb0 hW0 hn0
 have HNO:=lH (fun W=>noneC W)
 have HWR:=lH (fun W (hW:PX W m h g A n c d zs p)=>backC hW k v 6 a A' l c' ha)
 clear x ha hy HY0
 rcases hk with rfl | rfl
 ·
  go_enter Tryz.func62,Tryz.ntmps62
  go_upto_region 1 with fail
  rw [HW1.out,HW0.out]
  go_upto_region 15 with fail
  have HXC:=lH (HXC.out.drewN 1)
  have HOC:=lH (HOC.out.drewN 1)
  have HRC:Hid (RsB (w.heap.size + 1) (W0.drewN 1)):=lH HRC.out
  have HTB:=lH (HTB.out.drewN 1)
  go_region_with (first
   | (go_at_call 74;refine (HWR.out _ HXC.out).mono ?_;(rintro r w6 ⟨rfl,hx6,ho6⟩);have HTB:=lH (HTB.out.only ho6 (Nat.ne_of_gt HLT.out.2.2));have HRC:=lH (HRC.out.only ho6 (Nat.lt_succ_of_lt HLT.out.2.2));have HOC:=lH (HOC.out.trans ho6);have HXC:=lH hx6;obtain ⟨r0,r1,r2,r3,r4,r5⟩:=zero_cells HRC.out;clear hx6 ho6)
   | (go_at_call 22;refine (HNO.out _).mono ?_;(rintro r w5 ⟨rfl,hbl⟩);have HTB:=lH (HTB.out.below hbl HTB.out.lt);have HRC:=lH (HRC.out.low hbl);have HOC:=lH (HOC.out.trans (Only.of_below hbl g));have HXC:=lH (HXC.out.low hbl);have t0:=HTB.out.c0;have t1:=HTB.out.c1;have t2:=HTB.out.c2;have t3:=HTB.out.c3;obtain ⟨r0,r1,r2,r3,r4,r5⟩:=zero_cells HRC.out;clear hbl))
  all_goals
   go_wp2_with fail
   have HF:=lH (HRC.out.fin HWB.out (ob_nul _ _) HXC.out HOC.out HLT.out.1 HLT.out.2.1 HLT.out.2.2)
   refine bodyPost_ret (results_cell_row_tmp rfl _ _ (w.heap.size + 1) 27 _ (0,0) _ rfl HF.out.row Tryz.underlying27 rfl (by kernel_rfl) _ rfl) rfl ?_
   exact ⟨_,_,_,_,_,rfl,HF.out.ob,HF.out.px,HF.out.on⟩
   skip
 ·
  go_enter Tryz.func62,Tryz.ntmps62
  go_upto_region 1 with fail
  rw [HW1.out,HW0.out]
  go_upto_region 15 with fail
  have HXC:=lH (HXC.out.drewN 1)
  have HOC:=lH (HOC.out.drewN 1)
  have HRC:Hid (RsB (w.heap.size + 1) (W0.drewN 1)):=lH HRC.out
  have HTB:=lH (HTB.out.drewN 1)
  go_region_with (first
   | (go_at_call 74;refine (HWR.out _ HXC.out).mono ?_;(rintro r w6 ⟨rfl,hx6,ho6⟩);have HTB:=lH (HTB.out.only ho6 (Nat.ne_of_gt HLT.out.2.2));have HRC:=lH (HRC.out.only ho6 (Nat.lt_succ_of_lt HLT.out.2.2));have HOC:=lH (HOC.out.trans ho6);have HXC:=lH hx6;obtain ⟨r0,r1,r2,r3,r4,r5⟩:=zero_cells HRC.out;clear hx6 ho6)
   | (go_at_call 22;refine (HNO.out _).mono ?_;(rintro r w5 ⟨rfl,hbl⟩);have HTB:=lH (HTB.out.below hbl HTB.out.lt);have HRC:=lH (HRC.out.low hbl);have HOC:=lH (HOC.out.trans (Only.of_below hbl g));have HXC:=lH (HXC.out.low hbl);have t0:=HTB.out.c0;have t1:=HTB.out.c1;have t2:=HTB.out.c2;have t3:=HTB.out.c3;obtain ⟨r0,r1,r2,r3,r4,r5⟩:=zero_cells HRC.out;clear hbl))
  all_goals
   go_wp2_with fail
   have HF:=lH (HRC.out.fin HWB.out (ob_nul _ _) HXC.out HOC.out HLT.out.1 HLT.out.2.1 HLT.out.2.2)
   refine bodyPost_ret (results_cell_row_tmp rfl _ _ (w.heap.size + 1) 27 _ (0,0) _ rfl HF.out.row Tryz.underlying27 rfl (by kernel_rfl) _ rfl) rfl ?_
   exact ⟨_,_,_,_,_,rfl,HF.out.ob,HF.out.px,HF.out.on⟩
   skip
set_option maxHeartbeats 4000000 in
theorem begWrong {w:World} {m h g n c d p:Nat} {A:Option Addr} {zs:List Int} (x:PX w m h g A n c d zs p) (k v:Int) (a dd:Nat) (A':Option Addr) (l c':Nat) (b:List Int) (hy:Byt w w.heap.size A' l c' b) (ha:a ≤ n) (hk:k ≠ 1 ∧ k ≠ 2 ∧ k ≠ 3 ∧ k ≠ 4 ∧ k ≠ 9 ∧ k ≠ 5 ∧ k ≠ 7) :
  Calls Tryz.prog 62 #[.pointer (some ⟨m,0,none⟩),tkA k a v A' l c',.int .i64 dd] w (VaP m h g A n c d zs w (noR (wrgZ k) a)):=by
 have hx1:=x.alloc (.cells #[.int .i64 k,.int .i64 a,.int .i64 v,.slice A' l c'] 95)
 have ho1:=(Only.refl g w).alloc (.cells #[.int .i64 k,.int .i64 a,.int .i64 v,.slice A' l c'] 95)
 have hn1:=Bx.new w 95 (.int .i64 k) (.int .i64 a) (.int .i64 v) (.slice A' l c')
 have hy1:=hy.alloc (Nat.le_refl _) (.cells #[.int .i64 k,.int .i64 a,.int .i64 v,.slice A' l c'] 95)
 obtain ⟨W1,hW1⟩:∃ W1,w.alloc (.cells #[.int .i64 k,.int .i64 a,.int .i64 v,.slice A' l c'] 95) = W1:=⟨_,rfl⟩
 have hs1:W1.heap.size = w.heap.size + 1:=by rw [← hW1];simp
 rw [hW1] at hx1 ho1 hn1 hy1
 have hx0:=hx1.alloc (.cells #[.int .i64 0,.int .i64 0,.slice none 0 0,.slice none 0 0,.slice none 0 0] 27)
 have ho0:=ho1.alloc (.cells #[.int .i64 0,.int .i64 0,.slice none 0 0,.slice none 0 0,.slice none 0 0] 27)
 have hr0:=RsB.new W1
 have hb0:=(Below.refl W1.heap.size W1).alloc (Nat.le_refl _) (.cells #[.int .i64 0,.int .i64 0,.slice none 0 0,.slice none 0 0,.slice none 0 0] 27)
 obtain ⟨W0,hW0⟩:∃ W0,W1.alloc (.cells #[.int .i64 0,.int .i64 0,.slice none 0 0,.slice none 0 0,.slice none 0 0] 27) = W0:=⟨_,rfl⟩
 rw [hW0] at hx0 ho0 hr0 hb0
 rw [hs1] at hr0
 have hn0:=hn1.below hb0 hn1.lt
 have t0:=hn0.c0
 have t1:=hn0.c1
 have t2:=hn0.c2
 have t3:=hn0.c3
 have HY0:=lH (hy1.below hb0 (by rw [hs1];exact Nat.le_succ _))
 have HXC:=lH hx0
 have HOC:=lH ho0
 have HRC:=lH hr0
 have HTB:=lH hn0
 have HW1:=lH hW1
 have HW0:=lH hW0
 have HWB:Hid (w.heap.size ≤ w.heap.size + 1):=lH (Nat.le_succ _)
 have HLT:Hid (m < w.heap.size ∧ h < w.heap.size ∧ g < w.heap.size):=lH ⟨x.lt,x.lx.lt,x.lx.cu.lt⟩
 clear hx1 ho1 hn1 hy1 hW1 hs1 hx0 ho0 hr0 hb0 hW0 hn0
 have HNO:=lH (fun W=>noneC W)
 have HWR:=lH (fun W (hW:PX W m h g A n c d zs p)=>wrongC hW k v a A' l c' ha)
 obtain ⟨WZ,hWZ⟩:∃ WZ,wrgZ k = WZ:=⟨_,rfl⟩
 rw [hWZ] at HWR ⊢
 have n1:(k == 1) = false:=beq_eq_false_iff_ne.2 hk.1
 have n2:(k == 2) = false:=beq_eq_false_iff_ne.2 hk.2.1
 have n3:(k == 3) = false:=beq_eq_false_iff_ne.2 hk.2.2.1
 have n4:(k == 4) = false:=beq_eq_false_iff_ne.2 hk.2.2.2.1
 have n9:(k == 9) = false:=beq_eq_false_iff_ne.2 hk.2.2.2.2.1
 have n5:(k == 5) = false:=beq_eq_false_iff_ne.2 hk.2.2.2.2.2.1
 have n7:(k == 7) = false:=beq_eq_false_iff_ne.2 hk.2.2.2.2.2.2
 clear x ha hy HY0 hk hWZ
 go_enter Tryz.func62,Tryz.ntmps62
 go_upto_region 1 with fail
 rw [HW1.out,HW0.out]
 go_upto_region 17 with fail
 have HXC:=lH (HXC.out.drewN 1)
 have HOC:=lH (HOC.out.drewN 1)
 have HRC:Hid (RsB (w.heap.size + 1) (W0.drewN 1)):=lH HRC.out
 have HTB:=lH (HTB.out.drewN 1)
 go_region_with (first
  | (go_at_call 51;refine (HWR.out _ HXC.out).mono ?_;(rintro r w6 ⟨rfl,hx6,ho6⟩);have HTB:=lH (HTB.out.only ho6 (Nat.ne_of_gt HLT.out.2.2));have HRC:=lH (HRC.out.only ho6 (Nat.lt_succ_of_lt HLT.out.2.2));have HOC:=lH (HOC.out.trans ho6);have HXC:=lH hx6;obtain ⟨r0,r1,r2,r3,r4,r5⟩:=zero_cells HRC.out;clear hx6 ho6)
  | (go_at_call 22;refine (HNO.out _).mono ?_;(rintro r w5 ⟨rfl,hbl⟩);have HTB:=lH (HTB.out.below hbl HTB.out.lt);have HRC:=lH (HRC.out.low hbl);have HOC:=lH (HOC.out.trans (Only.of_below hbl g));have HXC:=lH (HXC.out.low hbl);have t0:=HTB.out.c0;have t1:=HTB.out.c1;have t2:=HTB.out.c2;have t3:=HTB.out.c3;obtain ⟨r0,r1,r2,r3,r4,r5⟩:=zero_cells HRC.out;clear hbl))
 all_goals
  go_wp2_with fail
  have HF:=lH (HRC.out.fin HWB.out (ob_nul _ _) HXC.out HOC.out HLT.out.1 HLT.out.2.1 HLT.out.2.2)
  refine bodyPost_ret (results_cell_row_tmp rfl _ _ (w.heap.size + 1) 27 _ (0,0) _ rfl HF.out.row Tryz.underlying27 rfl (by kernel_rfl) _ rfl) rfl ?_
  exact ⟨_,_,_,_,_,rfl,HF.out.ob,HF.out.px,HF.out.on⟩
  skip
end
section
open Go.RowKit
section
variable {w w' W:World} {m h g n c d p q B:Nat} {A:Option Addr} {zs:List Int}
theorem PX.lowB (x:PX w m h g A n c d zs p) (hb:Below B w w') (hm:m < B) (hh:h < B) (hg:g < B):PX w' m h g A n c d zs p :=
 ⟨(hb.block m hm).trans x.ps,x.lx.below hb hh hg,x.bt.below hb (Nat.le_of_lt hg),x.ne,x.sm⟩
theorem Only.lowB {g:Nat} (ho:Only g w W) (hb:Below w.heap.size W w'):Only g w w' :=
 ⟨hb.os.trans ho.os,hb.tape.trans ho.tape,hb.output.trans ho.output,Nat.le_trans ho.size hb.size,fun k hk hne=>(hb.block k hk).trans (ho.block k hk hne)⟩
end
theorem OwnO.litG {T:Nat → Prop} {w4 w5 w':World} {base g:Nat} {v:Value} {l:Obs} (h:OwnO T w4 base v l) (ho:Only g w4 w5) (hg:g < base) (hTg:¬ T g) (hb:Below w5.heap.size w5 w') (x:Ob) {c0 c1 c2 c3 c4:Value} (hx:ObR w5 (nwT w4 w5) x c0 c1 c2 c3 c4) (hl:l.len ≤ 1000000000) (hbase:base ≤ w4.heap.size) (hT:∀ g,T g → g < base) :
  ∃ A c w'',(Builtin.append_ #[24,24] 24 #[v,.slice (some ⟨w'.heap.size,0,none⟩) 1 1]).run Tryz.prog (w'.alloc (.cells #[c0,c1,c2,c3,c4] 27)) = .ok (.slice A (l.len + 1) c) w'' ∧ OwnO T w'' base (.slice A (l.len + 1) c) (l.snoc x) ∧ Below base w' w'':=by
 have hb1:Below w'.heap.size w' (w'.alloc (.cells #[c0,c1,c2,c3,c4] 27)):=(Below.refl _ _).alloc (Nat.le_refl _) _
 have h1:=((h.keepB ho hg hTg).low hb).low hb1
 have hn:=heap_alloc_new w' (.cells #[c0,c1,c2,c3,c4] 27)
 have hx1:ObR (w'.alloc (.cells #[c0,c1,c2,c3,c4] 27)) (ownS T (w'.alloc (.cells #[c0,c1,c2,c3,c4] 27)) base v) x c0 c1 c2 c3 c4 :=
  ObR.keep (fun g hg=>(hb1.block g (Nat.lt_of_lt_of_le hg.2 hb.size)).trans (hb.block g hg.2)) (fun g hg=>⟨.inr (Nat.le_trans hbase hg.1),Nat.lt_of_lt_of_le (Nat.lt_of_lt_of_le hg.2 hb.size) hb1.size,fun e=>by have:=h.ltB g e;have:=hg.1;omega⟩) x hx
 have hbz:base ≤ w'.heap.size:=Nat.le_trans hbase (Nat.le_trans ho.size hb.size)
 obtain ⟨v',w'',hr,ho2,hk,A,c,rfl⟩:=h1.append1 x w'.heap.size hx1 (by rw [cell_of_row _ _ 0 _ _ (0,0) hn];rfl) (by rw [cell_of_row _ _ 1 _ _ (0,0) hn];rfl) (by rw [cell_of_row _ _ 2 _ _ (0,0) hn];rfl) (by rw [cell_of_row _ _ 3 _ _ (0,0) hn];rfl) (by rw [cell_of_row _ _ 4 _ _ (0,0) hn];rfl) hl (Nat.le_trans hbz hb1.size) hT
 exact ⟨A,c,w'',hr,ho2,(hb1.mono hbz).trans (hk.below (Nat.le_trans hbz hb1.size) (fun b hb=>h1.owned b hb))⟩
theorem OwnE.litG {T:Nat → Prop} {w4 w5 w':World} {base g:Nat} {v:Value} {l:Ens} (h:OwnE T w4 base v l) (ho:Only g w4 w5) (hg:g < base) (hTg:¬ T g) (hb:Below w5.heap.size w5 w') (s:ByteArray) (x:Ob) {c0 c1 c2 c3 c4:Value} (hx:ObR w5 (nwT w4 w5) x c0 c1 c2 c3 c4) (hl:l.len ≤ 1000000000) (hbase:base ≤ w4.heap.size) (hT:∀ g,T g → g < base) :
  ∃ A c w'',(Builtin.append_ #[25,25] 25 #[v,.slice (some ⟨w'.heap.size,0,none⟩) 1 1]).run Tryz.prog (w'.alloc (.cells #[.string s,c0,c1,c2,c3,c4] 38)) = .ok (.slice A (l.len + 1) c) w'' ∧ OwnE T w'' base (.slice A (l.len + 1) c) (l.snoc s x) ∧ Below base w' w'':=by
 have hb1:Below w'.heap.size w' (w'.alloc (.cells #[.string s,c0,c1,c2,c3,c4] 38)):=(Below.refl _ _).alloc (Nat.le_refl _) _
 have h1:=((h.keepB ho hg hTg).low hb).low hb1
 have hn:=heap_alloc_new w' (.cells #[.string s,c0,c1,c2,c3,c4] 38)
 have hx1:ObR (w'.alloc (.cells #[.string s,c0,c1,c2,c3,c4] 38)) (ownS T (w'.alloc (.cells #[.string s,c0,c1,c2,c3,c4] 38)) base v) x c0 c1 c2 c3 c4 :=
  ObR.keep (fun g hg=>(hb1.block g (Nat.lt_of_lt_of_le hg.2 hb.size)).trans (hb.block g hg.2)) (fun g hg=>⟨.inr (Nat.le_trans hbase hg.1),Nat.lt_of_lt_of_le (Nat.lt_of_lt_of_le hg.2 hb.size) hb1.size,fun e=>by have:=h.ltB g e;have:=hg.1;omega⟩) x hx
 have hbz:base ≤ w'.heap.size:=Nat.le_trans hbase (Nat.le_trans ho.size hb.size)
 obtain ⟨v',w'',hr,ho2,hk,A,c,rfl⟩:=h1.append1 s x w'.heap.size hx1 (by rw [cell_of_row _ _ 0 _ _ (0,0) hn];rfl) (by rw [cell_of_row _ _ 1 _ _ (0,0) hn];rfl) (by rw [cell_of_row _ _ 2 _ _ (0,0) hn];rfl) (by rw [cell_of_row _ _ 3 _ _ (0,0) hn];rfl) (by rw [cell_of_row _ _ 4 _ _ (0,0) hn];rfl) (by rw [cell_of_row _ _ 5 _ _ (0,0) hn];rfl) hl (Nat.le_trans hbz hb1.size) hT
 exact ⟨A,c,w'',hr,ho2,(hb1.mono hbz).trans (hk.below (Nat.le_trans hbz hb1.size) (fun b hb=>h1.owned b hb))⟩
def ItsC (m h g:Nat) (A:Option Addr) (n c d:Nat) (zs:List Int) (f:Nat):Prop :=
 ∀ (dd:Nat) (w:World) (p:Nat),dd < 1000 → PX w m h g A n c d zs p → n - p < f → Calls Tryz.prog 109 #[.pointer (some ⟨m,0,none⟩),.int .i64 dd] w (ItP m h g A n c d zs w (parF zs f (.its .nil) dd p))
def EnsC12 (m h g:Nat) (A:Option Addr) (n c d:Nat) (zs:List Int) (f:Nat):Prop :=
 ∀ (dd:Nat) (w:World) (p:Nat),dd < 1000 → PX w m h g A n c d zs p → n - p < f → Calls Tryz.prog 110 #[.pointer (some ⟨m,0,none⟩),.int .i64 dd] w (EnP m h g A n c d zs w (parF zs f (.ens .nil) dd p))
theorem begunC {w:World} {m h g n c d p:Nat} {A:Option Addr} {zs:List Int} (f:Nat) (IH:ItsC m h g A n c d zs f ∧ EnsC12 m h g A n c d zs f) (x:PX w m h g A n c d zs (tokT zs p).q) (dd:Nat) (A':Option Addr) (l c':Nat) (hdd:dd < 1000) (hp:p ≤ n) (hf:n - p < f + 1) (h0:(tokT zs p).e = 0) (hy:Byt w w.heap.size A' l c' (tokT zs p).b) :
  Calls Tryz.prog 62 #[.pointer (some ⟨m,0,none⟩),tkA (tokT zs p).k (blkP zs p) (tokT zs p).v A' l c',.int .i64 dd] w (VaP m h g A n c d zs w (begR zs (fun d q=>parF zs f (.its .nil) d q) (fun d q=>parF zs f (.ens .nil) d q) (tokT zs p) (blkP zs p) dd)):=by
 have hv0:=tokT_bd zs p
 have hv:-9223372036854775808 ≤ (tokT zs p).v ∧ (tokT zs p).v ≤ 9223372036854775807:=by omega
 have hl:l ≤ 1000000:=by have:=tokT_len zs p;have:=hy.len;omega
 have ha:blkP zs p ≤ n:=by have:=(blkP_le zs p (by rw [x.len];exact hp)).2;rw [x.len] at this;exact this
 have hgt:=tokT_gt zs p h0
 obtain ⟨a,haa⟩:∃ a,blkP zs p = a:=⟨_,rfl⟩
 rw [haa] at ha ⊢
 obtain ⟨T,hT⟩:∃ T,tokT zs p = T:=⟨_,rfl⟩
 rw [hT] at hv hgt hy x ⊢
 obtain ⟨e,k,v,b,q⟩:=T
 clear hT hv0
 dsimp only at hv hgt hy x ⊢
 have hq:=x.lx.pl
 unfold begR
 dsimp only
 by_cases k1:k = 1
 ·subst k1
  rw [if_pos rfl]
  exact begWhole x v a dd A' l c' b hy hv
 rw [if_neg k1]
 by_cases k2:k = 2
 ·subst k2
  rw [if_pos rfl]
  exact begReal x v a dd A' l c' b hy hv
 rw [if_neg k2]
 by_cases k3:k = 3
 ·subst k3
  rw [if_pos rfl]
  exact begText x v a dd A' l c' b hy hl
 rw [if_neg k3]
 by_cases k4:k = 4
 ·subst k4
  rw [if_pos rfl]
  exact begName x v a dd A' l c' b hy hl
 rw [if_neg k4]
 by_cases k9:k = 9
 ·subst k9
  rw [if_pos rfl]
  exact begWord x v a dd A' l c' b hy ha
 rw [if_neg k9]
 by_cases k5:k = 5
 ·subst k5
  rw [if_pos rfl]
  cases dd with
  | zero =>
   rw [if_pos rfl]
   exact begDeep x 5 v a A' l c' b hy ha (.inl rfl)
  | succ dd =>
   rw [if_neg (Nat.succ_ne_zero dd)]
   exact begOpen x v a dd A' l c' b _ (by omega) hy (fun W hW=>IH.1 dd W q (by omega) hW (by have:=hgt (by decide);omega))
 rw [if_neg k5]
 by_cases k7:k = 7
 ·subst k7
  rw [if_pos rfl]
  cases dd with
  | zero =>
   rw [if_pos rfl]
   exact begDeep x 7 v a A' l c' b hy ha (.inr rfl)
  | succ dd =>
   rw [if_neg (Nat.succ_ne_zero dd)]
   exact begLeft x v a dd A' l c' b _ (by omega) hy (fun W hW=>IH.2 dd W q (by omega) hW (by have:=hgt (by decide);omega))
 rw [if_neg k7]
 have hw:=begWrong x k v a dd A' l c' b hy ha ⟨k1,k2,k3,k4,k9,k5,k7⟩
 unfold wrgZ at hw
 by_cases k0:k = 0
 ·rw [if_pos k0] at hw ⊢;exact hw
 ·rw [if_neg k0] at hw ⊢;exact hw
end
section
open Go.RowKit
def lenV:Value → Nat
 | .slice _ n _=>n
 | _=>0
theorem OwnO.obsV {w W:World} {AV:Option Addr} {N cV:Nat} {l:Obs} (h:OwnO noneT W w.heap.size (.slice AV N cV) l):ObsV W (nwT w W) l AV cV ∧ l.len = N:=by
 obtain ⟨A',c',e,hc,hx⟩:=h.shape
 injection e with e1 e2 e3
 subst e1 e2 e3
 have key:∀ b,(noneT b ∨ w.heap.size ≤ b) ∧ b < W.heap.size → nwT w W b:=fun b hb=>⟨hb.1.elim (fun h=>h.elim) id,hb.2⟩
 exact ⟨⟨hc,fun h0=>by
  obtain ⟨g,o,e,hg,hr⟩:=hx h0
  exact ⟨g,o,e,key g hg,ObsR.keep (fun _ _=>rfl) key l g o (key g hg) hg hr⟩⟩,rfl⟩
theorem obsV_nil (W:World) (S:Nat → Prop):ObsV W S .nil none 0:=⟨by simp [Obs.len],fun h=>absurd h (by simp [Obs.len])⟩
set_option maxHeartbeats 4000000 in
theorem itemsC {m h g n c d:Nat} {A:Option Addr} {zs:List Int} (F:Nat) (IH:∀ f,f < F → ItsC m h g A n c d zs f ∧ EnsC12 m h g A n c d zs f):ItsC m h g A n c d zs F:=by
 intro dd w p hdd x hf
 obtain ⟨R,hR⟩:∃ R,parF zs F (.its .nil) dd p = R:=⟨_,rfl⟩
 rw [hR]
 have HR:=lH hR
 have HX:=lH x
 have HF:=lH hf
 have HIH:=lH IH
 have HDD:=lH hdd
 have HLT:Hid (m < w.heap.size ∧ h < w.heap.size ∧ g < w.heap.size):=lH ⟨x.lt,x.lx.lt,x.lx.cu.lt⟩
 clear x hf hR IH hdd
 go_enter Tryz.func109,Tryz.ntmps109
 go_wp2_with fail
 go_loopw [6] (fun lv wr=>∃ (AV:Option Addr) (N cV q f':Nat) (l:Obs),lv = .slice AV N cV ∧ Hid (l.len = N) ∧ Hid (N ≤ q) ∧ Hid (PX wr m h g A n c d zs q) ∧ Hid (Only g w wr) ∧ Hid (OwnO noneT wr w.heap.size (.slice AV N cV) l) ∧ Hid (n - q < f' ∧ f' ≤ F) ∧ Hid (parF zs f' (.its l) dd q = R)) (fun lv _=>n + 1 - lenV lv)
 case atStart=>exact ⟨none,0,0,p,F,.nil,rfl,lH rfl,lH (Nat.zero_le _),HX,lH (Only.refl g w),lH (OwnO.nil _ _ _),lH ⟨HF.out,Nat.le_refl _⟩,HR⟩
 case round =>
  obtain ⟨AV,N,cV,q,f',l,rfl,HN,HNQ,HXq,HOq,HOW,HFF,HPR⟩:=hrel
  obtain ⟨f,rfl⟩:∃ f,f' = f + 1:=⟨f' - 1,by have:=HFF.out;omega⟩
  have hpr:=HPR.out
  rw [parF] at hpr
  have htk:=ptkC HXq.out
  have hbg:∀ W A' l' c',PX W m h g A n c d zs (tokT zs q).q → (tokT zs q).e = 0 → Byt W W.heap.size A' l' c' (tokT zs q).b → Calls Tryz.prog 62 #[.pointer (some ⟨m,0,none⟩),tkA (tokT zs q).k (blkP zs q) (tokT zs q).v A' l' c',.int .i64 dd] W (VaP m h g A n c d zs W (begR zs (fun d q=>parF zs f (.its .nil) d q) (fun d q=>parF zs f (.ens .nil) d q) (tokT zs q) (blkP zs q) dd)):=fun W A' l' c' hW h0 hy=>begunC f (HIH.out f (by have:=HFF.out;omega)) hW dd A' l' c' HDD.out HXq.out.lx.pl HFF.out.1 h0 hy
  have hbq:(tokT zs q).e = 0 → (begR zs (fun d q=>parF zs f (.its .nil) d q) (fun d q=>parF zs f (.ens .nil) d q) (tokT zs q) (blkP zs q) dd).e = 0 → q < (begR zs (fun d q=>parF zs f (.its .nil) d q) (fun d q=>parF zs f (.ens .nil) d q) (tokT zs q) (blkP zs q) dd).q:=fun h0 hE=>Nat.lt_of_lt_of_le (tokT_gt zs q h0 (begR_k0 _ _ _ _ _ _ hE)) (begR_q zs _ _ _ _ _ (fun d q=>parF_q zs f (.its .nil) d q) (fun d q=>parF_q zs f (.ens .nil) d q) hE)
  obtain ⟨B,hB⟩:∃ B,begR zs (fun d q=>parF zs f (.its .nil) d q) (fun d q=>parF zs f (.ens .nil) d q) (tokT zs q) (blkP zs q) dd = B:=⟨_,rfl⟩
  rw [hB] at hbg hpr hbq
  obtain ⟨T,hT⟩:∃ T,tokT zs q = T:=⟨_,rfl⟩
  obtain ⟨bp,hbp⟩:∃ bp,blkP zs q = bp:=⟨_,rfl⟩
  rw [hT] at hbg hpr hbq htk
  rw [hbp] at hbg htk
  obtain ⟨e,k,v,b,q2⟩:=T
  dsimp only at hbg hpr hbq htk
  have HTK:=lH htk
  have HBG:=lH hbg
  have k0:=HXq.out.k0
  clear hB hT hbp htk hbg HPR
  by_cases he:e = 0
  ·subst he
   rw [if_neg (by decide)] at hpr
   by_cases h6:k = 6
   ·subst h6
    rw [if_pos rfl] at hpr
    have HPR:=lH hpr
    clear hpr hbq HBG
    go_upto_region 3 with (first
     | (go_at_call 50;refine HTK.out.mono ?_;(rintro r w3 ⟨A3,l3,c3,rfl,hx3,ho3,hy3,hf3⟩);have HX3:=lH hx3;have HO3:=lH ho3;have HY3:=lH hy3;clear hx3 ho3 hy3 hf3))
    have hn4:=Bx.new w3 95 (.int .i64 6) (.int .i64 bp) (.int .i64 v) (.slice A3 l3 c3)
    have hx4:=HX3.out.alloc (.cells #[.int .i64 6,.int .i64 bp,.int .i64 v,.slice A3 l3 c3] 95)
    have ho4:=HO3.out.alloc (.cells #[.int .i64 6,.int .i64 bp,.int .i64 v,.slice A3 l3 c3] 95)
    have hy4:=HY3.out.alloc (Nat.le_refl _) (.cells #[.int .i64 6,.int .i64 bp,.int .i64 v,.slice A3 l3 c3] 95)
    obtain ⟨w4,hw4⟩:∃ w4,w3.alloc (.cells #[.int .i64 6,.int .i64 bp,.int .i64 v,.slice A3 l3 c3] 95) = w4:=⟨_,rfl⟩
    have hs4:w3.heap.size ≤ w4.heap.size:=by rw [← hw4];simp
    rw [hw4] at hn4 hx4 ho4 hy4
    rw [hw4]
    have t0:=hn4.c0
    have t1:=hn4.c1
    have t2:=hn4.c2
    have t3:=hn4.c3
    have HX4:=lH hx4
    have HO4:=lH ho4
    have HY4:=lH (hy4.more hs4)
    have HOW4:=lH (HOW.out.keepB ho4 HLT.out.2.2 (fun h=>h))
    have HOG4:=lH (HOq.out.trans ho4)
    clear hn4 hx4 ho4 hy4 hw4 hs4
    go_wp2_with fail
    go_ret2
    have hov:=HOW4.out.obsV
    rw [← HPR.out]
    exact ⟨AV,cV,l,by rw [hov.2];rfl,fun _=>rfl,fun h=>absurd rfl h,hov.1,HX4.out,HOG4.out⟩
   ·rw [if_neg h6] at hpr
    have h6b:(k == 6) = false:=beq_eq_false_iff_ne.2 h6
    clear h6
    by_cases hE:B.e = 0
    ·rw [if_neg (fun h=>h hE)] at hpr
     have HBQ:=lH (hbq rfl hE)
     have HPR:=lH hpr
     obtain ⟨E,X,q5⟩:=B
     dsimp only at hE HBQ HPR
     subst hE
     clear hpr hbq
     go_upto_region 3 with (first
      | (go_at_call 50;refine HTK.out.mono ?_;(rintro r w3 ⟨A3,l3,c3,rfl,hx3,ho3,hy3,hf3⟩);have HX3:=lH hx3;have HO3:=lH ho3;have HY3:=lH hy3;clear hx3 ho3 hy3 hf3))
     have hn4:=Bx.new w3 95 (.int .i64 k) (.int .i64 bp) (.int .i64 v) (.slice A3 l3 c3)
     have hx4:=HX3.out.alloc (.cells #[.int .i64 k,.int .i64 bp,.int .i64 v,.slice A3 l3 c3] 95)
     have ho4:=HO3.out.alloc (.cells #[.int .i64 k,.int .i64 bp,.int .i64 v,.slice A3 l3 c3] 95)
     have hy4:=HY3.out.alloc (Nat.le_refl _) (.cells #[.int .i64 k,.int .i64 bp,.int .i64 v,.slice A3 l3 c3] 95)
     obtain ⟨w4,hw4⟩:∃ w4,w3.alloc (.cells #[.int .i64 k,.int .i64 bp,.int .i64 v,.slice A3 l3 c3] 95) = w4:=⟨_,rfl⟩
     have hs4:w3.heap.size ≤ w4.heap.size:=by rw [← hw4];simp
     rw [hw4] at hn4 hx4 ho4 hy4
     rw [hw4]
     have t0:=hn4.c0
     have t1:=hn4.c1
     have t2:=hn4.c2
     have t3:=hn4.c3
     have HX4:=lH hx4
     have HO4:=lH ho4
     have HY4:=lH (hy4.more hs4)
     have HOW4:=lH (HOW.out.keepB ho4 HLT.out.2.2 (fun h=>h))
     have HOG4:=lH (HOq.out.trans ho4)
     clear hn4 hx4 ho4 hy4 hw4 hs4
     have k4:=HX4.out.k0
     go_upto_region 8 with (first
      | (go_at_call 62;refine (HBG.out _ _ _ _ HX4.out (by trivial) HY4.out).mono ?_;(rintro r w5 ⟨d0,d1,d2,d3,d4,hrr,hob,hx5,ho5⟩);dsimp only at hrr hob hx5;subst hrr;obtain ⟨k5,n5,A5,m5,e5,A6,m6,e6,A7,m7,e7,rfl,rfl,rfl,rfl,rfl⟩:=hob.shp;have HOB:=lH hob;have HX5:=lH hx5;have HO5:=lH ho5;clear hob hx5 ho5))
     have hb6:=(Below.refl w5.heap.size w5).alloc (Nat.le_refl _) (.cells #[.int .i64 k5,.int .i64 n5,.slice A5 m5 e5,.slice A6 m6 e6,.slice A7 m7 e7] 27)
     have hn6:=heap_alloc_new w5 (.cells #[.int .i64 k5,.int .i64 n5,.slice A5 m5 e5,.slice A6 m6 e6,.slice A7 m7 e7] 27)
     obtain ⟨w6,hw6⟩:∃ w6,w5.alloc (.cells #[.int .i64 k5,.int .i64 n5,.slice A5 m5 e5,.slice A6 m6 e6,.slice A7 m7 e7] 27) = w6:=⟨_,rfl⟩
     rw [hw6] at hb6 hn6
     rw [hw6]
     have c0:w6.cell? ⟨w5.heap.size,0,none⟩ = some (.int .i64 k5):=cell_of_row _ _ 0 _ _ (0,0) hn6
     have c1:w6.cell? ⟨w5.heap.size,1,none⟩ = some (.int .i64 n5):=cell_of_row _ _ 1 _ _ (0,0) hn6
     have c2:w6.cell? ⟨w5.heap.size,2,none⟩ = some (.slice A5 m5 e5):=cell_of_row _ _ 2 _ _ (0,0) hn6
     have c3:w6.cell? ⟨w5.heap.size,3,none⟩ = some (.slice A6 m6 e6):=cell_of_row _ _ 3 _ _ (0,0) hn6
     have c4:w6.cell? ⟨w5.heap.size,4,none⟩ = some (.slice A7 m7 e7):=cell_of_row _ _ 4 _ _ (0,0) hn6
     have hap:=OwnO.litG HOW4.out HO5.out HLT.out.2.2 (fun h=>h) hb6 X HOB.out (by have:=HN.out;have:=HNQ.out;have:=HXq.out.lx.pl;have:=HXq.out.sm;omega) HOG4.out.size (fun _ h=>h.elim)
     rw [HN.out] at hap
     have HAP:=lH hap
     have HX6:=lH (HX5.out.low hb6)
     have HO6:=lH ((HOG4.out.trans HO5.out).trans (Only.of_below hb6 g))
     clear hb6 hn6 hw6 hap
     go_wp2_with (first
      | (at_builtin;obtain ⟨A8,c8,w8,hrun,ho8,hb8⟩:=HAP.out;refine Lib.wpList_append_run_sl _ rfl (.tmp 35) (.tmp 37) 24 rfl _ _ rfl rfl hrun ?_;clear hrun;have HOW8:=lH ho8;have HX8:=lH (HX6.out.lowB hb8 HLT.out.1 HLT.out.2.1 HLT.out.2.2);have HO8:=lH (HO6.out.lowB hb8);clear ho8 hb8))
     go_roundw
     case rel=>exact ⟨A8,N + 1,c8,q5,f,l.snoc X,rfl,lH (by rw [Obs.snoc_len,HN.out]),lH (by have:=HNQ.out;have:=HBQ.out;omega),HX8,HO8,HOW8,lH (by have:=HFF.out;have:=HBQ.out;have:=HX8.out.lx.pl;omega),HPR⟩
     case measure=>have:=HNQ.out;have:=HXq.out.lx.pl;simp [lenV];omega
    ·rw [if_pos hE] at hpr
     have HPR:=lH hpr
     obtain ⟨E,X,q5⟩:=B
     dsimp only at hE HPR
     have hEb:(E == 0) = false:=beq_eq_false_iff_ne.2 hE
     have HE:=lH hE
     clear hpr hbq hE
     go_upto_region 3 with (first
      | (go_at_call 50;refine HTK.out.mono ?_;(rintro r w3 ⟨A3,l3,c3,rfl,hx3,ho3,hy3,hf3⟩);have HX3:=lH hx3;have HO3:=lH ho3;have HY3:=lH hy3;clear hx3 ho3 hy3 hf3))
     have hn4:=Bx.new w3 95 (.int .i64 k) (.int .i64 bp) (.int .i64 v) (.slice A3 l3 c3)
     have hx4:=HX3.out.alloc (.cells #[.int .i64 k,.int .i64 bp,.int .i64 v,.slice A3 l3 c3] 95)
     have ho4:=HO3.out.alloc (.cells #[.int .i64 k,.int .i64 bp,.int .i64 v,.slice A3 l3 c3] 95)
     have hy4:=HY3.out.alloc (Nat.le_refl _) (.cells #[.int .i64 k,.int .i64 bp,.int .i64 v,.slice A3 l3 c3] 95)
     obtain ⟨w4,hw4⟩:∃ w4,w3.alloc (.cells #[.int .i64 k,.int .i64 bp,.int .i64 v,.slice A3 l3 c3] 95) = w4:=⟨_,rfl⟩
     have hs4:w3.heap.size ≤ w4.heap.size:=by rw [← hw4];simp
     rw [hw4] at hn4 hx4 ho4 hy4
     rw [hw4]
     have t0:=hn4.c0
     have t1:=hn4.c1
     have t2:=hn4.c2
     have t3:=hn4.c3
     have HX4:=lH hx4
     have HO4:=lH ho4
     have HY4:=lH (hy4.more hs4)
     have HOW4:=lH (HOW.out.keepB ho4 HLT.out.2.2 (fun h=>h))
     have HOG4:=lH (HOq.out.trans ho4)
     clear hn4 hx4 ho4 hy4 hw4 hs4
     have k4:=HX4.out.k0
     go_wp2_with (first
      | (go_at_call 62;refine (HBG.out _ _ _ _ HX4.out (by trivial) HY4.out).mono ?_;(rintro r w5 ⟨d0,d1,d2,d3,d4,hrr,hob,hx5,ho5⟩);dsimp only at hrr hob hx5;subst hrr;obtain ⟨k5,n5,A5,m5,e5,A6,m6,e6,A7,m7,e7,rfl,rfl,rfl,rfl,rfl⟩:=hob.shp;have HX5:=lH hx5;have HO5:=lH ho5;clear hob hx5 ho5))
     go_ret2
     rw [← HPR.out]
     exact ⟨none,0,.nil,rfl,fun h=>absurd h HE.out,fun _=>rfl,obsV_nil _ _,HX5.out.alloc _,(HOG4.out.trans HO5.out).alloc _⟩
  ·rw [if_pos he] at hpr
   have HPR:=lH hpr
   have heb:(e == 0) = false:=beq_eq_false_iff_ne.2 he
   have HE:=lH he
   clear hpr hbq he HBG
   go_wp2_with (first
    | (go_at_call 50;refine HTK.out.mono ?_;(rintro r w3 ⟨A3,l3,c3,rfl,hx3,ho3,hy3,hf3⟩);have HX3:=lH hx3;have HO3:=lH ho3;clear hx3 ho3 hy3 hf3))
   go_ret2
   rw [← HPR.out]
   exact ⟨none,0,.nil,rfl,fun h=>absurd h HE.out,fun _=>rfl,obsV_nil _ _,HX3.out.alloc _,(HOq.out.trans HO3.out).alloc _⟩
end
section
open Go.RowKit
def ValC (m h g:Nat) (A:Option Addr) (n c d:Nat) (zs:List Int) (f:Nat):Prop :=
 ∀ (dd:Nat) (w:World) (p:Nat),dd < 1000 → PX w m h g A n c d zs p → n - p < f → Calls Tryz.prog 38 #[.pointer (some ⟨m,0,none⟩),.int .i64 dd] w (VaP m h g A n c d zs w (parF zs f .val dd p))
set_option maxHeartbeats 2000000 in
theorem valueC {m h g n c d:Nat} {A:Option Addr} {zs:List Int} (f:Nat) (IH:ItsC m h g A n c d zs f ∧ EnsC12 m h g A n c d zs f):ValC m h g A n c d zs (f + 1):=by
 intro dd w p hdd x hf
 have hx0:=x.alloc (.cells #[.int .i64 0,.int .i64 0,.slice none 0 0,.slice none 0 0,.slice none 0 0] 27)
 have ho0:=(Only.refl g w).alloc (.cells #[.int .i64 0,.int .i64 0,.slice none 0 0,.slice none 0 0,.slice none 0 0] 27)
 have hr0:=RsB.new w
 obtain ⟨W0,hW0⟩:∃ W0,w.alloc (.cells #[.int .i64 0,.int .i64 0,.slice none 0 0,.slice none 0 0,.slice none 0 0] 27) = W0:=⟨_,rfl⟩
 rw [hW0] at hx0 ho0 hr0
 have htk:=ptkC hx0
 have hbg:∀ W A' l' c',PX W m h g A n c d zs (tokT zs p).q → (tokT zs p).e = 0 → Byt W W.heap.size A' l' c' (tokT zs p).b → Calls Tryz.prog 62 #[.pointer (some ⟨m,0,none⟩),tkA (tokT zs p).k (blkP zs p) (tokT zs p).v A' l' c',.int .i64 dd] W (VaP m h g A n c d zs W (begR zs (fun d q=>parF zs f (.its .nil) d q) (fun d q=>parF zs f (.ens .nil) d q) (tokT zs p) (blkP zs p) dd)):=fun W A' l' c' hW h0 hy=>begunC f IH hW dd A' l' c' hdd x.lx.pl hf h0 hy
 have HWB:Hid (w.heap.size ≤ w.heap.size):=lH (Nat.le_refl _)
 have HLT:Hid (m < w.heap.size ∧ h < w.heap.size ∧ g < w.heap.size):=lH ⟨x.lt,x.lx.lt,x.lx.cu.lt⟩
 have k0:=hx0.k0
 have HO0:=lH ho0
 have HR0:=lH hr0
 have HW0:=lH hW0
 have HNO:=lH (fun W=>noneC W)
 rw [parF]
 obtain ⟨B,hB⟩:∃ B,begR zs (fun d q=>parF zs f (.its .nil) d q) (fun d q=>parF zs f (.ens .nil) d q) (tokT zs p) (blkP zs p) dd = B:=⟨_,rfl⟩
 rw [hB] at hbg ⊢
 obtain ⟨T,hT⟩:∃ T,tokT zs p = T:=⟨_,rfl⟩
 obtain ⟨bp,hbp⟩:∃ bp,blkP zs p = bp:=⟨_,rfl⟩
 rw [hT] at hbg htk ⊢
 rw [hbp] at hbg htk
 obtain ⟨e,k,v,b,q2⟩:=T
 dsimp only at hbg htk ⊢
 have HTK:=lH htk
 have HBG:=lH hbg
 clear hx0 ho0 hr0 hW0 htk hbg x hf hdd IH hB hT hbp
 by_cases he:e = 0
 ·subst he
  rw [if_neg (by decide)]
  obtain ⟨E,X,q5⟩:=B
  go_enter Tryz.func38,Tryz.ntmps38
  go_upto_region 1 with fail
  rw [HW0.out]
  go_upto_region 2 with (first
   | (go_at_call 50;refine HTK.out.mono ?_;(rintro r w3 ⟨A3,l3,c3,rfl,hx3,ho3,hy3,hf3⟩);have HX3:=lH hx3;have HO3:=lH ho3;have HY3:=lH hy3;clear hx3 ho3 hy3 hf3))
  have hn4:=Bx.new w3 95 (.int .i64 k) (.int .i64 bp) (.int .i64 v) (.slice A3 l3 c3)
  have hx4:=HX3.out.alloc (.cells #[.int .i64 k,.int .i64 bp,.int .i64 v,.slice A3 l3 c3] 95)
  have ho4:=HO3.out.alloc (.cells #[.int .i64 k,.int .i64 bp,.int .i64 v,.slice A3 l3 c3] 95)
  have hy4:=HY3.out.alloc (Nat.le_refl _) (.cells #[.int .i64 k,.int .i64 bp,.int .i64 v,.slice A3 l3 c3] 95)
  obtain ⟨w4,hw4⟩:∃ w4,w3.alloc (.cells #[.int .i64 k,.int .i64 bp,.int .i64 v,.slice A3 l3 c3] 95) = w4:=⟨_,rfl⟩
  have hs4:w3.heap.size ≤ w4.heap.size:=by rw [← hw4];simp
  rw [hw4] at hn4 hx4 ho4 hy4
  rw [hw4]
  have t0:=hn4.c0
  have t1:=hn4.c1
  have t2:=hn4.c2
  have t3:=hn4.c3
  have HX4:=lH hx4
  have HO4:=lH (HO0.out.trans ho4)
  have HY4:=lH (hy4.more hs4)
  have HR4:=lH (HR0.out.only ho4 HLT.out.2.2)
  clear hn4 hx4 ho4 hy4 hw4 hs4
  go_wp2_with (first
   | (go_at_call 62;refine (HBG.out _ _ _ _ HX4.out (by trivial) HY4.out).mono ?_;(rintro r w5 ⟨d0,d1,d2,d3,d4,hrr,hob,hx5,ho5⟩);(try dsimp only at hrr hob hx5);subst hrr;obtain ⟨k5,n5,A5,m5,e5,A6,m6,e6,A7,m7,e7,rfl,rfl,rfl,rfl,rfl⟩:=hob.shp;have HRF:=lH (HR4.out.only ho5 HLT.out.2.2);obtain ⟨r0,r1,r2,r3,r4,r5⟩:=zero_cells HRF.out;have HF:=lH (RsB.finN (w:=w) HR4.out HRF.out HWB.out hob hx5 (HO4.out.trans ho5) HLT.out);clear hob hx5 ho5))
  refine bodyPost_ret (results_cell_row_tmp rfl _ _ w.heap.size 27 _ (0,0) _ rfl HF.out.row Tryz.underlying27 rfl (by kernel_rfl) _ rfl) rfl ?_
  exact ⟨_,_,_,_,_,rfl,HF.out.ob,HF.out.px,HF.out.on⟩
 ·rw [if_pos he]
  have heb:(e == 0) = false:=beq_eq_false_iff_ne.2 he
  clear he HBG
  go_enter Tryz.func38,Tryz.ntmps38
  go_upto_region 1 with fail
  rw [HW0.out]
  go_upto_region 2 with (first
   | (go_at_call 50;refine HTK.out.mono ?_;(rintro r w3 ⟨A3,l3,c3,rfl,hx3,ho3,hy3,hf3⟩);have HX3:=lH hx3;have HO3:=lH ho3;clear hx3 ho3 hy3 hf3))
  have hx4:=HX3.out.alloc (.cells #[.int .i64 k,.int .i64 bp,.int .i64 v,.slice A3 l3 c3] 95)
  have ho4:=HO3.out.alloc (.cells #[.int .i64 k,.int .i64 bp,.int .i64 v,.slice A3 l3 c3] 95)
  obtain ⟨w4,hw4⟩:∃ w4,w3.alloc (.cells #[.int .i64 k,.int .i64 bp,.int .i64 v,.slice A3 l3 c3] 95) = w4:=⟨_,rfl⟩
  rw [hw4] at hx4 ho4
  rw [hw4]
  have HXC:=lH hx4
  have HOC:=lH (HO0.out.trans ho4)
  have HRC:=lH (HR0.out.only ho4 HLT.out.2.2)
  clear hx4 ho4 hw4
  go_wp2_with (first
   | (go_at_call 22;refine (HNO.out _).mono ?_;(rintro r w6 ⟨rfl,hbl⟩);have HRF:=lH (HRC.out.low hbl);have HXF:=lH (HXC.out.low hbl);have HOF:=lH (HOC.out.trans (Only.of_below hbl g));obtain ⟨r0,r1,r2,r3,r4,r5⟩:=zero_cells HRF.out;clear hbl))
  have HF:=lH (HRF.out.fin HWB.out (ob_nul _ _) HXF.out HOF.out HLT.out.1 HLT.out.2.1 HLT.out.2.2)
  refine bodyPost_ret (results_cell_row_tmp rfl _ _ w.heap.size 27 _ (0,0) _ rfl HF.out.row Tryz.underlying27 rfl (by kernel_rfl) _ rfl) rfl ?_
  exact ⟨_,_,_,_,_,rfl,HF.out.ob,HF.out.px,HF.out.on⟩
end
end Go.Proofs.YtpomkhcobpihmaaGreat
