/- ParseData: a stream is just so many bytes as its Length says, whatever they are; one that lies is none. -/
import Derived.Test.YtpomkhcobpihmaaGreatPad52
namespace Go.Proofs.YtpomkhcobpihmaaGreat
open Go.ChangeShapes Go.WideShapes Go.ChangeAt Go.RowKit Go.Deep
set_option linter.unusedVariables false
set_option maxRecDepth 100000
def RSD (W:World) (b1 b2 mr:Nat) (x0 x1 x2 x3 x4 y0 y1 y2 y3 y4:Value) (q:Nat):Prop :=
 W.cell? ⟨b1,1,none⟩ = some x0 ∧ W.cell? ⟨b1,2,none⟩ = some x1 ∧ W.cell? ⟨b1,3,none⟩ = some x2 ∧ W.cell? ⟨b1,4,none⟩ = some x3 ∧ W.cell? ⟨b1,5,none⟩ = some x4 ∧
 W.cell? ⟨b2,1,none⟩ = some y0 ∧ W.cell? ⟨b2,2,none⟩ = some y1 ∧ W.cell? ⟨b2,3,none⟩ = some y2 ∧ W.cell? ⟨b2,4,none⟩ = some y3 ∧ W.cell? ⟨b2,5,none⟩ = some y4 ∧ W.cell? ⟨mr,1,none⟩ = some (.int .i64 q)
theorem rsd_of {W:World} {G b1 b2 mr n c d q:Nat} {N N2:Int} {X Y:Ob} {A:Option Addr} {zs:List Int} {x0 x1 x2 x3 x4 y0 y1 y2 y3 y4:Value} (h1:OB6 W G b1 N X x0 x1 x2 x3 x4) (h2:OB6 W G b2 N2 Y y0 y1 y2 y3 y4) (h3:RX W mr A n c d zs q):RSD W b1 b2 mr x0 x1 x2 x3 x4 y0 y1 y2 y3 y4 q :=
 ⟨cell_of_row _ _ 1 _ _ (0,0) h1.row,cell_of_row _ _ 2 _ _ (0,0) h1.row,cell_of_row _ _ 3 _ _ (0,0) h1.row,cell_of_row _ _ 4 _ _ (0,0) h1.row,cell_of_row _ _ 5 _ _ (0,0) h1.row,cell_of_row _ _ 1 _ _ (0,0) h2.row,cell_of_row _ _ 2 _ _ (0,0) h2.row,cell_of_row _ _ 3 _ _ (0,0) h2.row,cell_of_row _ _ 4 _ _ (0,0) h2.row,cell_of_row _ _ 5 _ _ (0,0) h2.row,h3.c1⟩
theorem textB_len (n:Int) (whole:Bool):(textB n whole).length ≤ 100:=by
 have h1:=digB_le n.natAbs
 have h2:=digB_le (n.natAbs / 100000)
 have h3:(fracB n.natAbs).length ≤ 20:=by
  obtain ⟨j,hj⟩:=stripZ_spec ((digB (100000 + n.natAbs % 100000)).drop 1)
  have e:=congrArg List.length hj
  have h4:=digB_le (100000 + n.natAbs % 100000)
  rw [List.length_append,List.length_drop] at e
  show (stripZ _).length ≤ 20
  omega
 have h5:(signB n).length ≤ 1:=by unfold signB;split <;> simp
 unfold textB
 rw [List.length_append]
 split
 ·omega
 ·simp only [List.length_append,List.length_singleton];omega
theorem strZ_numsD (zs:List Int) (h:∀ z ∈ zs,0 ≤ z ∧ z < 256):strZ (strOfNums zs) = zs:=by
 unfold strZ
 rw [strOfNums_data,List.map_map]
 refine (List.map_congr_left fun z hz=>?_).trans (List.map_id _)
 have:=h z hz
 simp
 omega
theorem data_out (A:Option Addr) (n c:Nat) (y x:Int) (w:World) (hn:n ≤ 9223372036854775807) (h:500 < n) :
  Calls Tryz.prog 5 #[.slice A n c,.int .i8 y,.int .u8 x] w fun e w'=>e = .returned (.bool true) ∧ Below w.heap.size w w':=by
 have HAW:=lH (awake_any12 w)
 have g1:(n:Int) > 500:=by omega
 go_enter Tryz.func5,Tryz.ntmps5
 go_wp2_with (first
  | (go_at_call 8;refine HAW.out.mono ?_;(rintro e w1 ⟨rfl,hb1⟩)))
 go_ret
 exact ⟨rfl,hb1⟩
theorem and1:∀ a:Fin 256,bits .and .u8 ((a.val:Nat):Int) 1 = ((a.val % 2:Nat):Int):=by decide +kernel
theorem and3:∀ a:Fin 256,bits .and .u8 ((a.val:Nat):Int) 3 = ((a.val % 4:Nat):Int):=by decide +kernel
set_option maxHeartbeats 8000000 in
theorem data_main (A:Option Addr) (n c x:Nat) (y:Int) (zs:List Int) (w:World) (hz:Byt w w.heap.size A n c zs) (hn:n ≤ 500) (hy:-128 ≤ y ∧ y ≤ 127) (hx:x ≤ 255) :
  Calls Tryz.prog 5 #[.slice A n c,.int .i8 y,.int .u8 x] w fun e w'=>e = .returned (.bool true) ∧ Below w.heap.size w w':=by
 have HAW:=lH (awake_any12 w)
 have g1:¬ (n:Int) > 500:=by omega
 have HZ:=lH hz
 have HNN:=lH hn
 clear hz
 have hr1:IntKind.i64.wrap y = y:=IntWalk.i64_in _ (by omega)
 obtain ⟨m,hm⟩:∃ m:Int,(n:Int) + y = m:=⟨_,rfl⟩
 have hr2:IntKind.i64.wrap ((n:Int) + y) = m:=by rw [hm];exact IntWalk.i64_in _ (by omega)
 have HM:=lH hm
 have HMB:Hid (-128 ≤ m ∧ m ≤ 700):=lH (by omega)
 have ha1:bits .and .u8 (x:Int) 1 = ((x % 2:Nat):Int):=and1 ⟨x,by omega⟩
 have HYY:=lH hy
 clear hm hy
 go_enter Tryz.func5,Tryz.ntmps5
 go_upto_region 6 with (first
  | (go_at_call 8;refine HAW.out.mono ?_;(rintro e w1 ⟨rfl,hb1⟩);have HB1:=lH hb1;clear hb1))
 clear hr1 hr2 g1 HAW
 obtain ⟨BT,hbt,hbs⟩:∃ BT:ByteArray,([.string ⟨#[10]⟩,.string ⟨#[13,10]⟩]:List Value)[x % 2]? = some (.string BT) ∧ (strZ BT = [10] ∨ strZ BT = [13,10]):=by
  obtain ⟨k,hk⟩:∃ k,x % 2 = k:=⟨_,rfl⟩
  have h4:k < 2:=by omega
  rw [hk]
  obtain rfl | rfl:k = 0 ∨ k = 1:=by omega
  ·exact ⟨_,rfl,.inl rfl⟩
  ·exact ⟨_,rfl,.inr rfl⟩
 have HBT:=lH hbs
 clear hbs
 go_upto_region 7 with fail
 have hb2:=(Below.refl w1.heap.size w1).alloc (Nat.le_refl _) (.cells #[.string ⟨#[10]⟩,.string ⟨#[13,10]⟩] 9)
 obtain ⟨w2,hw2⟩:∃ w2,w1.alloc (.cells #[.string ⟨#[10]⟩,.string ⟨#[13,10]⟩] 9) = w2:=⟨_,rfl⟩
 rw [hw2] at hb2
 rw [hw2]
 have HB2:=lH (HB1.out.trans (hb2.mono HB1.out.size))
 clear hb2 hw2 hbt ha1
 have ha0:bits .and .u8 ((x:Int) / 2) 3 = (((x / 2) % 4:Nat):Int):=by
  have:=and3 ⟨x / 2,by omega⟩
  simp only [Int.natCast_ediv] at this
  exact this
 obtain ⟨k,hk⟩:∃ k,(x / 2) % 4 = k:=⟨_,rfl⟩
 have hk4:k < 4:=by omega
 have ha3:bits .and .u8 ((x:Int) / 2) 3 = (k:Int):=by rw [ha0,hk]
 obtain ⟨BH,hbh,hbs⟩:∃ BH:ByteArray,([.string ⟨#[10]⟩,.string ⟨#[13,10]⟩,.string ⟨#[13]⟩,.string ⟨#[]⟩]:List Value)[k]? = some (.string BH) ∧ (strZ BH = [10] ∨ strZ BH = [13,10] ∨ strZ BH = [13] ∨ strZ BH = []):=by
  obtain rfl | rfl | rfl | rfl:k = 0 ∨ k = 1 ∨ k = 2 ∨ k = 3:=by omega
  ·exact ⟨_,rfl,.inl rfl⟩
  ·exact ⟨_,rfl,.inr (.inl rfl)⟩
  ·exact ⟨_,rfl,.inr (.inr (.inl rfl))⟩
  ·exact ⟨_,rfl,.inr (.inr (.inr rfl))⟩
 have HBH:=lH hbs
 clear hbs hk ha0
 have hbg:([.string ⟨#[10]⟩,.string ⟨#[13,10]⟩,.string ⟨#[13]⟩,.string ⟨#[]⟩]:List Value)[k]'hk4 = .string BH:=by
  have h:=List.getElem?_eq_getElem (l:=([.string ⟨#[10]⟩,.string ⟨#[13,10]⟩,.string ⟨#[13]⟩,.string ⟨#[]⟩]:List Value)) (i:=k) hk4
  rw [hbh] at h
  injection h with h
  exact h.symm
 go_upto_region 8 with fail
 clear hbg hbh hk4
 have hb3:=(Below.refl w2.heap.size w2).alloc (Nat.le_refl _) (.cells #[.string ⟨#[10]⟩,.string ⟨#[13,10]⟩,.string ⟨#[13]⟩,.string ⟨#[]⟩] 9)
 obtain ⟨w3,hw3⟩:∃ w3,w2.alloc (.cells #[.string ⟨#[10]⟩,.string ⟨#[13,10]⟩,.string ⟨#[13]⟩,.string ⟨#[]⟩] 9) = w3:=⟨_,rfl⟩
 rw [hw3] at hb3
 rw [hw3]
 have hb3w:=HB2.out.trans (hb3.mono HB2.out.size)
 have HB3:=lH hb3w
 have hcvs:=fun W (hW:Below w.heap.size w W)=>conv_str (HZ.out.below hW (Nat.le_refl _)) (strOfNums zs) rfl
 have HTX:=lH (fun W=>refText m true W (by have:=HMB.out;omega) (by have:=HMB.out;omega))
 have htl:=textB_len m true
 obtain ⟨DS,hDS⟩:∃ DS,strOfNums zs = DS:=⟨_,rfl⟩
 rw [hDS] at hcvs
 obtain ⟨TS,hTS⟩:∃ TS:ByteArray,(⟨(textB m true).toArray⟩:ByteArray) = TS:=⟨_,rfl⟩
 rw [hTS] at HTX
 have hTZ:strZ TS = zsB (textB m true):=by rw [← hTS];simp [strZ,zsB]
 have sT:TS.size ≤ 100:=by rw [← hTS];simpa [ByteArray.size] using htl
 have sD:DS.size ≤ 500:=by rw [← hDS,strOfNums_size,HZ.out.len];exact HNN.out
 have sB:BT.size ≤ 2:=by have:=strZ_len BT;rcases HBT.out with h | h <;> rw [h] at this <;> simp at this <;> omega
 have sH:BH.size ≤ 2:=by have:=strZ_len BH;rcases HBH.out with h | h | h | h <;> rw [h] at this <;> simp at this <;> omega
 have HDS:=lH hDS
 have HTZ:=lH hTZ
 clear hb3 hw3 ha3 htl hDS hTS hTZ
 have hst:=hcvs w3.drew hb3w.drew
 refine wp_region_heldR (fun W=>(convert 23 9 (.slice A n c)).run Tryz.prog W = .ok (.string DS) W) 1000 (by kernel_rfl) hst (fun hHeld=>?_)
 refine tkG 0 (v:=?_) ?_ ?_;rotate_left;focus (intro wS hSw;(try dsimp only at hSw);go_simp;(try simp only [hSw]);(try rw [if_neg (by omega)]);try with_reducible rfl)
 try simp only [Act.put,aS2,aS0,aS1]
 refine tkG 4 (v:=?_) ?_ ?_;rotate_left;focus (intro wS hSw;(try dsimp only at hSw);go_simp;(try simp only [hSw]);(try rw [if_neg (by omega)]);try with_reducible rfl)
 try simp only [Act.put,aS2,aS0,aS1]
 refine tkG 6 (v:=?_) ?_ ?_;rotate_left;focus (intro wS hSw;(try dsimp only at hSw);go_simp;(try simp only [hSw]);(try rw [if_neg (by omega)]);try with_reducible rfl)
 try simp only [Act.put,aS2,aS0,aS1]
 refine tkG 7 (v:=?_) ?_ ?_;rotate_left;focus (intro wS hSw;(try dsimp only at hSw);go_simp;(try simp only [hSw]);(try rw [if_neg (by omega)]);try with_reducible rfl)
 try simp only [Act.put,aS2,aS0,aS1]
 refine tkG 9 (v:=?_) ?_ ?_;rotate_left;focus (intro wS hSw;(try dsimp only at hSw);go_simp;(try simp only [hSw]);(try rw [if_neg (by omega)]);try with_reducible rfl)
 try simp only [Act.put,aS2,aS0,aS1]
 refine wpAnyR_step 1 rfl (by kernel_rfl) (fun K hK=>?_)
 go_simp
 go_at_call 16
 refine (HTX.out _).mono ?_
 rintro r w4 ⟨rfl,hb4⟩
 have hb4w:=hb3w.drew.trans (hb4.mono hb3w.drew.size)
 have HB4:=lH hb4w
 have hst4:=hcvs w4 hb4w
 clear hb4 hb3w
 go_wp2_with fail
 refine hK.out _ _ hst4 (fun hHeld=>?_)
 clear hK K
 try simp only [Act.put,aS2,aS0,aS1]
 refine tkG 2 (v:=?_) ?_ ?_;rotate_left;focus (intro wS hSw;(try dsimp only at hSw);go_simp;(try simp only [hSw]);(try rw [if_neg (by omega)]);try with_reducible rfl)
 try simp only [Act.put,aS2,aS0,aS1]
 refine tkG 3 (v:=?_) ?_ ?_;rotate_left;focus (intro wS hSw;(try dsimp only at hSw);go_simp;(try simp only [hSw]);(try rw [if_neg (by omega)]);try with_reducible rfl)
 try simp only [Act.put,aS2,aS0,aS1]
 refine tkG 5 (v:=?_) ?_ ?_;rotate_left;focus (intro wS hSw;(try dsimp only at hSw);go_simp;(try simp only [hSw]);(try rw [if_neg (by omega)]);try with_reducible rfl)
 try simp only [Act.put,aS2,aS0,aS1]
 refine tkG 8 (v:=?_) ?_ ?_;rotate_left;focus (intro wS hSw;(try dsimp only at hSw);go_simp;(try simp only [hSw]);(try rw [if_neg (by omega)]);try with_reducible rfl)
 try simp only [Act.put,aS2,aS0,aS1]
 refine tkG 10 (v:=?_) ?_ ?_;rotate_left;focus (intro wS hSw;(try dsimp only at hSw);go_simp;(try simp only [hSw]);(try rw [if_neg (by omega)]);try with_reducible rfl)
 try simp only [Act.put,aS2,aS0,aS1]
 refine tkG 11 (v:=?_) ?_ ?_;rotate_left;focus (intro wS hSw;(try dsimp only at hSw);go_simp;(try simp only [hSw]);(try rw [if_neg (by omega)]);try with_reducible rfl)
 try simp only [Act.put,aS2,aS0,aS1]
 refine tkG 12 (v:=?_) ?_ ?_;rotate_left;focus (intro wS hSw;(try dsimp only at hSw);go_simp;(try simp only [hSw]);(try rw [if_neg (by omega)]);try with_reducible rfl)
 try simp only [Act.put,aS2,aS0,aS1]
 refine wpAnyR_done (by kernel_rfl) ?_
 refine NoPanic.normal ?_
 obtain ⟨Z,hZ⟩:∃ Z,(⟨#[52,32,48,32,111,98,106,60,60,47,76,101,110,103,116,104,32]⟩:ByteArray) ++ TS ++ ⟨#[62,62,115,116,114,101,97,109]⟩ ++ BT ++ DS ++ BH ++ ⟨#[101,110,100,115,116,114,101,97,109,10,101,110,100,111,98,106]⟩ = Z:=⟨_,rfl⟩
 have hzz:(strZ Z).drop 0 = pdA ++ (zsB (textB m true) ++ (pdB ++ (strZ BT ++ (zs ++ (strZ BH ++ pdC))))):=by
  have hD:strZ DS = zs:=by rw [← HDS.out];exact strZ_numsD zs HZ.out.rng
  rw [← hZ]
  simp only [strZ_app,hD,HTZ.out,List.append_assoc,List.drop_zero]
  rfl
 have hzs:Z.size ≤ 800:=by
  rw [← hZ]
  simp only [ByteArray.size_append]
  have e1:(⟨#[52,32,48,32,111,98,106,60,60,47,76,101,110,103,116,104,32]⟩:ByteArray).size = 17:=rfl
  have e2:(⟨#[62,62,115,116,114,101,97,109]⟩:ByteArray).size = 8:=rfl
  have e3:(⟨#[101,110,100,115,116,114,101,97,109,10,101,110,100,111,98,106]⟩:ByteArray).size = 16:=rfl
  omega
 simp only [hZ]
 have hdi:=data_item (strZ Z) (strZ BT) zs (strZ BH) m (strZ_byt w4 Z).rng (by have:=HMB.out;omega) hzz HBT.out HBH.out 895 8
 have HDI:=lH hdi
 have HSZ:=lH hzs
 have hcv:=conv_txt Z
 have hby:=strZ_byt w4 Z
 have hbl:=strZ_below w4 Z
 have hcz:=hcv w4
 obtain ⟨w5,hw5⟩:∃ w5,Lib.bytesWorld w4 5 Z = w5:=⟨_,rfl⟩
 have hs5:w5.heap.size = w4.heap.size + 1:=by rw [← hw5,Lib.bytesWorld_size]
 rw [hw5] at hby hbl hcz
 obtain ⟨cz,hcc⟩:∃ cz,grownCap w4 Z.size 0 5 = cz:=⟨_,rfl⟩
 rw [hcc] at hby hcz
 rw [← hs5] at hby
 have HNEW:=lH (pnewC _ Z.size cz 9 (strZ Z) w5 hby (by omega) (by decide))
 have HB5:=lH (HB4.out.trans (hbl.mono HB4.out.size))
 clear hdi hzs hzz hby hbl hw5 hs5 hcc sT sD sB sH hcvs hst hst4 hb4w HTX HDS HTZ hHeld hcv hZ
 go_upto_region 10 with (first
  | (go_at_call 10;refine HNEW.out.mono ?_;(rintro r w6 ⟨rfl,hx6,hb6⟩);have HX6:=lH hx6;have HB6:=lH hb6;clear hx6 hb6))
 have hd9:dpZ 9 = 9:=by decide
 have HIT:=lH (pItemC 900 HX6.out (by decide) (by have:=HSZ.out;omega))
 rw [hd9] at HIT HX6
 have hri:=fun (A2:Option Addr) (c2 mr:Nat) W (hW:RX W mr A2 Z.size c2 9 (strZ Z) 0)=>rItemC 900 hW (by decide) (by have:=HSZ.out;omega)
 obtain ⟨IT,hIT⟩:∃ IT,itemT (strZ Z) 900 9 0 = IT:=⟨_,rfl⟩
 have hdi:=HDI.out
 rw [show itemT (strZ Z) (895 + 5) (8 + 1) 0 = IT from hIT] at hdi
 rw [hIT] at HIT hri
 obtain ⟨N,E,X,q⟩:=IT
 clear HDI
 have HDI:=lH hdi
 have HRI:=lH hri
 clear hdi hri hIT hd9
 obtain ⟨G,hG⟩:∃ G,w5.heap.size = G:=⟨_,rfl⟩
 rw [hG] at HIT HX6
 rw [hG]
 have HG5:Hid (w.heap.size ≤ G):=lH (by rw [← hG];exact HB5.out.size)
 have HB6W:=lH (HB5.out.trans (HB6.out.mono HB5.out.size))
 clear hG HB6 HNEW HB5
 go_upto_region 11 with (first
  | (go_at_call 11;refine HIT.out.mono ?_;(rintro r w7 ⟨d0,d1,d2,d3,d4,hrr,hob,hx7,ho7⟩);(try dsimp only at hrr hob hx7);subst hrr;obtain ⟨k7,n7,A7,m7,e7,B7,l7,f7,C7,o7,h7,rfl,rfl,rfl,rfl,rfl⟩:=hob.shp;have HO7:=lH hob;have HX7:=lH hx7;have HN7:=lH ho7;clear hob hx7 ho7))
 have hb8:=(Below.refl w7.heap.size w7).alloc (Nat.le_refl _) (.cells #[.int .i64 N,.int .i64 k7,.int .i64 n7,.slice A7 m7 e7,.slice B7 l7 f7,.slice C7 o7 h7] 34)
 have hn8:=heap_alloc_new w7 (.cells #[.int .i64 N,.int .i64 k7,.int .i64 n7,.slice A7 m7 e7,.slice B7 l7 f7,.slice C7 o7 h7] 34)
 obtain ⟨w8,hw8⟩:∃ w8,w7.alloc (.cells #[.int .i64 N,.int .i64 k7,.int .i64 n7,.slice A7 m7 e7,.slice B7 l7 f7,.slice C7 o7 h7] 34) = w8:=⟨_,rfl⟩
 rw [hw8] at hb8 hn8
 rw [hw8]
 have hgw:=HX6.out.lx.cu.lt
 have hsz:=HN7.out.size
 have HK1:=lH (show OB6 w8 G w7.heap.size N X (.int .i64 k7) (.int .i64 n7) (.slice A7 m7 e7) (.slice B7 l7 f7) (.slice C7 o7 h7) from ⟨hn8,ObR.keep (fun y hy=>hb8.block y hy.2) (fun y hy=>⟨by have:=hy.1;omega,Nat.lt_of_lt_of_le hy.2 hb8.size⟩) _ HO7.out,by omega⟩)
 have HX8:=lH (HX7.out.low hb8)
 have HG8:Hid (G < w8.heap.size):=lH (Nat.lt_of_lt_of_le hgw (Nat.le_trans hsz hb8.size))
 have h67:=HN7.out.belowB HG5.out (Nat.le_of_lt hgw)
 have HB8:=lH ((HB6W.out.trans h67).trans (hb8.mono (Nat.le_trans HB6W.out.size h67.size)))
 clear hb8 hn8 hw8 hgw hsz h67 HO7 HX7 HN7 HIT HX6 HB6W hcz
 have hby:=strZ_byt w8 Z
 have hbl:=strZ_below w8 Z
 have hcz:=conv_txt Z w8
 obtain ⟨w9,hw9⟩:∃ w9,Lib.bytesWorld w8 5 Z = w9:=⟨_,rfl⟩
 have hs9:w9.heap.size = w8.heap.size + 1:=by rw [← hw9,Lib.bytesWorld_size]
 rw [hw9] at hby hbl hcz
 obtain ⟨cy,hcc⟩:∃ cy,grownCap w8 Z.size 0 5 = cy:=⟨_,rfl⟩
 rw [hcc] at hby hcz
 rw [← hs9] at hby
 have HNEW:=lH (rnewC 9 hby (by have:=HSZ.out;omega) (by decide))
 have HL9:=lH hbl
 clear hby hbl hw9 hs9 hcc
 go_upto_region 12 with (first
  | (go_at_call 12;refine HNEW.out.mono ?_;(rintro r wA ⟨rfl,hxA,hsA,hbA⟩);have HXA:=lH hxA;have HBA:=lH hbA;clear hxA hbA hsA))
 rw [show dpZ 9 = 9 by decide] at HXA
 have hlo:w8.heap.size ≤ w9.heap.size:=HL9.out.size
 have HLO:=lH hlo
 have hla:=HL9.out.trans (HBA.out.mono hlo)
 obtain ⟨mr,hmr⟩:∃ mr,w9.heap.size = mr:=⟨_,rfl⟩
 rw [hmr] at HXA HLO
 rw [hmr]
 have HLA:=lH hla
 have HIR:=lH (HRI.out _ _ _ _ HXA.out)
 clear hlo hla hmr HL9 HBA HNEW HRI hcz
 go_upto_region 13 with (first
  | (go_at_call 13;refine HIR.out.mono ?_;(rintro r wB ⟨d0,d1,d2,d3,d4,hrr,hob,hx9,ho9⟩);(try dsimp only at hrr hob hx9);subst hrr;obtain ⟨k9,n9,A9,m9,e9,B9,l9,f9,C9,o9,h9,rfl,rfl,rfl,rfl,rfl⟩:=hob.shp;have HO9:=lH hob;have HX9:=lH hx9;have HN9:=lH ho9;clear hob hx9 ho9))
 have hb8:=(Below.refl wB.heap.size wB).alloc (Nat.le_refl _) (.cells #[.int .i64 N,.int .i64 k9,.int .i64 n9,.slice A9 m9 e9,.slice B9 l9 f9,.slice C9 o9 h9] 34)
 have hn8:=heap_alloc_new wB (.cells #[.int .i64 N,.int .i64 k9,.int .i64 n9,.slice A9 m9 e9,.slice B9 l9 f9,.slice C9 o9 h9] 34)
 obtain ⟨wC,hwC⟩:∃ wC,wB.alloc (.cells #[.int .i64 N,.int .i64 k9,.int .i64 n9,.slice A9 m9 e9,.slice B9 l9 f9,.slice C9 o9 h9] 34) = wC:=⟨_,rfl⟩
 rw [hwC] at hb8 hn8
 rw [hwC]
 have h1:=HN9.out.belowB HLO.out (Nat.le_of_lt HXA.out.lt)
 have h8C:=(HLA.out.trans h1).trans (hb8.mono (Nat.le_trans HLA.out.size h1.size))
 have hsA:=HLA.out.size
 have hsB:=HN9.out.size
 have HK2:=lH (show OB6 wC G wB.heap.size N X (.int .i64 k9) (.int .i64 n9) (.slice A9 m9 e9) (.slice B9 l9 f9) (.slice C9 o9 h9) from ⟨hn8,ObR.keep (fun y hy=>hb8.block y hy.2) (fun y hy=>⟨by have:=hy.1;have:=HG8.out;omega,Nat.lt_of_lt_of_le hy.2 hb8.size⟩) _ HO9.out,by have:=HG8.out;omega⟩)
 have hk1:=HK1.out.low h8C
 clear HK1
 have HK1:=lH hk1
 have HXC:=lH (HX8.out.low h8C)
 have HRC:=lH (HX9.out.low hb8)
 have HBC:=lH (HB8.out.trans (h8C.mono HB8.out.size))
 clear hb8 hn8 hwC h1 h8C hsA hsB hk1 HO9 HX9 HN9 HIR HXA HLA HX8 HB8
 have hst:=rsd_of (HK1.out.low (Below.refl _ _).drew) (HK2.out.low (Below.refl _ _).drew) (HRC.out.low (Below.refl _ _).drew)
 have HSM:=lH (fun W (hW:Below wC.heap.size wC W)=>(HK1.out.low hW).same (HK2.out.low hW))
 refine wp_region_heldR (fun W=>RSD W w7.heap.size wB.heap.size mr (.int .i64 k7) (.int .i64 n7) (.slice A7 m7 e7) (.slice B7 l7 f7) (.slice C7 o7 h7) (.int .i64 k9) (.int .i64 n9) (.slice A9 m9 e9) (.slice B9 l9 f9) (.slice C9 o9 h9) q) 1000 (by kernel_rfl) hst (fun hHeld=>?_)
 refine tkG 0 (v:=?_) ?_ ?_;rotate_left;focus (intro wS hSw;obtain ⟨s0,s1,s2,s3,s4,s5,s6,s7,s8,s9,sa⟩:=hSw;go_simp;(try simp only [s0,s1,s2,s3,s4,s5,s6,s7,s8,s9,sa]);(try simp only [bne_self_eq_false]);try with_reducible rfl)
 try simp only [Act.put,aS2,aS0,aS1]
 refine tkG 1 (v:=?_) ?_ ?_;rotate_left;focus (intro wS hSw;obtain ⟨s0,s1,s2,s3,s4,s5,s6,s7,s8,s9,sa⟩:=hSw;go_simp;(try simp only [s0,s1,s2,s3,s4,s5,s6,s7,s8,s9,sa]);(try simp only [bne_self_eq_false]);try with_reducible rfl)
 try simp only [Act.put,aS2,aS0,aS1]
 refine tkG 2 (v:=?_) ?_ ?_;rotate_left;focus (intro wS hSw;obtain ⟨s0,s1,s2,s3,s4,s5,s6,s7,s8,s9,sa⟩:=hSw;go_simp;(try simp only [s0,s1,s2,s3,s4,s5,s6,s7,s8,s9,sa]);(try simp only [bne_self_eq_false]);try with_reducible rfl)
 try simp only [Act.put,aS2,aS0,aS1]
 refine tkG 3 (v:=?_) ?_ ?_;rotate_left;focus (intro wS hSw;obtain ⟨s0,s1,s2,s3,s4,s5,s6,s7,s8,s9,sa⟩:=hSw;go_simp;(try simp only [s0,s1,s2,s3,s4,s5,s6,s7,s8,s9,sa]);(try simp only [bne_self_eq_false]);try with_reducible rfl)
 try simp only [Act.put,aS2,aS0,aS1]
 refine tkG 4 (v:=?_) ?_ ?_;rotate_left;focus (intro wS hSw;obtain ⟨s0,s1,s2,s3,s4,s5,s6,s7,s8,s9,sa⟩:=hSw;go_simp;(try simp only [s0,s1,s2,s3,s4,s5,s6,s7,s8,s9,sa]);(try simp only [bne_self_eq_false]);try with_reducible rfl)
 try simp only [Act.put,aS2,aS0,aS1]
 refine tkG 5 (v:=?_) ?_ ?_;rotate_left;focus (intro wS hSw;obtain ⟨s0,s1,s2,s3,s4,s5,s6,s7,s8,s9,sa⟩:=hSw;go_simp;(try simp only [s0,s1,s2,s3,s4,s5,s6,s7,s8,s9,sa]);(try simp only [bne_self_eq_false]);try with_reducible rfl)
 try simp only [Act.put,aS2,aS0,aS1]
 refine tkG 6 (v:=?_) ?_ ?_;rotate_left;focus (intro wS hSw;obtain ⟨s0,s1,s2,s3,s4,s5,s6,s7,s8,s9,sa⟩:=hSw;go_simp;(try simp only [s0,s1,s2,s3,s4,s5,s6,s7,s8,s9,sa]);(try simp only [bne_self_eq_false]);try with_reducible rfl)
 try simp only [Act.put,aS2,aS0,aS1]
 refine tkG 7 (v:=?_) ?_ ?_;rotate_left;focus (intro wS hSw;obtain ⟨s0,s1,s2,s3,s4,s5,s6,s7,s8,s9,sa⟩:=hSw;go_simp;(try simp only [s0,s1,s2,s3,s4,s5,s6,s7,s8,s9,sa]);(try simp only [bne_self_eq_false]);try with_reducible rfl)
 try simp only [Act.put,aS2,aS0,aS1]
 refine wpAnyR_step 8 rfl (by kernel_rfl) (fun K hK=>?_)
 go_simp
 go_at_call 14
 refine (HSM.out _ (Below.refl _ _).drew).mono ?_
 rintro r wD ⟨rfl,hbD⟩
 have hbD':=(Below.refl wC.heap.size wC).drew.trans hbD
 have hk1:=HK1.out.low hbD'
 have hk2:=HK2.out.low hbD'
 have hrc:=HRC.out.low hbD'
 have hxc:=HXC.out.low hbD'
 have hst2:=rsd_of hk1 hk2 hrc
 have HBD:=lH (HBC.out.trans (hbD'.mono HBC.out.size))
 clear HK1 HK2 HSM
 have HK1:=lH hk1
 have HXD:=lH hxc
 clear hk1 hk2 hrc hxc hbD hbD' hst
 go_wp2_with fail
 refine hK.out _ _ hst2 (fun hHeld=>?_)
 clear hK K
 try simp only [Act.put,aS2,aS0,aS1]
 refine tkG 9 (v:=?_) ?_ ?_;rotate_left;focus (intro wS hSw;obtain ⟨s0,s1,s2,s3,s4,s5,s6,s7,s8,s9,sa⟩:=hSw;go_simp;(try simp only [s0,s1,s2,s3,s4,s5,s6,s7,s8,s9,sa]);(try simp only [bne_self_eq_false]);try with_reducible rfl)
 try simp only [Act.put,aS2,aS0,aS1]
 refine tkG 10 (v:=?_) ?_ ?_;rotate_left;focus (intro wS hSw;obtain ⟨s0,s1,s2,s3,s4,s5,s6,s7,s8,s9,sa⟩:=hSw;go_simp;(try simp only [s0,s1,s2,s3,s4,s5,s6,s7,s8,s9,sa]);(try simp only [bne_self_eq_false]);try with_reducible rfl)
 try simp only [Act.put,aS2,aS0,aS1]
 refine tkG 11 (v:=?_) ?_ ?_;rotate_left;focus (intro wS hSw;obtain ⟨s0,s1,s2,s3,s4,s5,s6,s7,s8,s9,sa⟩:=hSw;go_simp;(try simp only [s0,s1,s2,s3,s4,s5,s6,s7,s8,s9,sa]);(try simp only [bne_self_eq_false]);try with_reducible rfl)
 try simp only [Act.put,aS2,aS0,aS1]
 refine tkG 12 (v:=?_) ?_ ?_;rotate_left;focus (intro wS hSw;obtain ⟨s0,s1,s2,s3,s4,s5,s6,s7,s8,s9,sa⟩:=hSw;go_simp;(try simp only [s0,s1,s2,s3,s4,s5,s6,s7,s8,s9,sa]);(try simp only [bne_self_eq_false]);try with_reducible rfl)
 try simp only [Act.put,aS2,aS0,aS1]
 refine tkG 14 (v:=?_) ?_ ?_;rotate_left;focus (intro wS hSw;obtain ⟨s0,s1,s2,s3,s4,s5,s6,s7,s8,s9,sa⟩:=hSw;go_simp;(try simp only [s0,s1,s2,s3,s4,s5,s6,s7,s8,s9,sa]);(try simp only [bne_self_eq_false]);try with_reducible rfl)
 try simp only [Act.put,aS2,aS0,aS1]
 refine tkG 15 (v:=?_) ?_ ?_;rotate_left;focus (intro wS hSw;obtain ⟨s0,s1,s2,s3,s4,s5,s6,s7,s8,s9,sa⟩:=hSw;go_simp;(try simp only [s0,s1,s2,s3,s4,s5,s6,s7,s8,s9,sa]);(try simp only [bne_self_eq_false]);try with_reducible rfl)
 try simp only [Act.put,aS2,aS0,aS1]
 refine tkG 16 (v:=?_) ?_ ?_;rotate_left;focus (intro wS hSw;obtain ⟨s0,s1,s2,s3,s4,s5,s6,s7,s8,s9,sa⟩:=hSw;go_simp;(try simp only [s0,s1,s2,s3,s4,s5,s6,s7,s8,s9,sa]);(try simp only [bne_self_eq_false]);try with_reducible rfl)
 try simp only [Act.put,aS2,aS0,aS1]
 refine tkG 17 (v:=?_) ?_ ?_;rotate_left;focus (intro wS hSw;obtain ⟨s0,s1,s2,s3,s4,s5,s6,s7,s8,s9,sa⟩:=hSw;go_simp;(try simp only [s0,s1,s2,s3,s4,s5,s6,s7,s8,s9,sa]);(try simp only [bne_self_eq_false]);try with_reducible rfl)
 try simp only [Act.put,aS2,aS0,aS1]
 refine tkG 18 (v:=?_) ?_ ?_;rotate_left;focus (intro wS hSw;obtain ⟨s0,s1,s2,s3,s4,s5,s6,s7,s8,s9,sa⟩:=hSw;go_simp;(try simp only [s0,s1,s2,s3,s4,s5,s6,s7,s8,s9,sa]);(try simp only [bne_self_eq_false]);try with_reducible rfl)
 try simp only [Act.put,aS2,aS0,aS1]
 refine wpAnyR_step 13 rfl (by kernel_rfl) (fun K hK=>?_)
 go_simp
 go_at_call 15
 refine (pAtC HXD.out).mono ?_
 rintro r wE ⟨rfl,rfl⟩
 go_wp2_with fail
 refine hK.out _ _ hst2 (fun hHeld=>?_)
 clear hK K
 try simp only [Act.put,aS2,aS0,aS1]
 refine tkG 19 (v:=?_) ?_ ?_;rotate_left;focus (intro wS hSw;obtain ⟨s0,s1,s2,s3,s4,s5,s6,s7,s8,s9,sa⟩:=hSw;go_simp;(try simp only [s0,s1,s2,s3,s4,s5,s6,s7,s8,s9,sa]);(try simp only [bne_self_eq_false]);try with_reducible rfl)
 try simp only [Act.put,aS2,aS0,aS1]
 refine tkG 20 (v:=?_) ?_ ?_;rotate_left;focus (intro wS hSw;obtain ⟨s0,s1,s2,s3,s4,s5,s6,s7,s8,s9,sa⟩:=hSw;go_simp;(try simp only [s0,s1,s2,s3,s4,s5,s6,s7,s8,s9,sa]);(try simp only [bne_self_eq_false]);try with_reducible rfl)
 try simp only [Act.put,aS2,aS0,aS1]
 refine wpAnyR_done (by kernel_rfl) ?_
 refine NoPanic.normal ?_
 clear hst2 HSZ HG5 HG8 HLO HXC HRC HBC HXD
 by_cases hy0:y = 0
 ·have hmn:m = (zs.length:Int):=by have:=HM.out;have:=HZ.out.len;omega
  obtain ⟨hE,hX⟩:=HDI.out.2 hmn
  subst hE hX hy0
  have hob:=HK1.out.ob
  have c3:=cell_of_row wD w7.heap.size 3 _ _ (0,0) HK1.out.row
  unfold ObR at hob
  obtain ⟨-,-,-,-,⟨A7',m7',e7',eS,hB⟩,-,-⟩:=hob
  injection eS with eS1 eS2 eS3
  subst eS1 eS2 eS3
  have hby:=bytS_B (B:=wD.heap.size) hB (fun _ h=>h.2)
  have hml:m7 = n:=by have h1:=hby.len;have h2:=HZ.out.len;omega
  subst hml
  have HSY:=lH (refSame_yes _ A m7 _ _ c _ zs wD hby (HZ.out.below HBD.out (Nat.le_refl _)) (by have:=HNN.out;omega))
  clear hB hby hmn HDI HK1 HM
  go_wp2_with (first
   | (go_at_call 17;refine HSY.out.mono ?_;(rintro r wF ⟨rfl,qF,rfl⟩);(try dsimp only)))
  go_ret
  exact ⟨rfl,HBD.out.os,HBD.out.tape,HBD.out.output,HBD.out.size,HBD.out.block⟩
 ·have gy:(y == 0) = false:=beq_eq_false_iff_ne.2 hy0
  clear hy0
  by_cases hm0:0 ≤ m
  ·clear HDI HK1
   go_wp2_with fail
   go_ret
   exact ⟨rfl,HBD.out⟩
  ·have hE:=HDI.out.1 (by omega)
   subst hE
   clear HDI HK1
   go_wp2_with fail
   go_ret
   exact ⟨rfl,HBD.out⟩
theorem data_walk (A:Option Addr) (n c:Nat) (zs:List Int) (y x:Int) (w:World) (hz:Byt w w.heap.size A n c zs) (hn:n ≤ 9223372036854775807) (ly:-128 ≤ y) (hy:y ≤ 127) (lx:0 ≤ x) (hx:x ≤ 255) :
  Calls Tryz.prog 5 #[.slice A n c,.int .i8 y,.int .u8 x] w fun e w'=>e = .returned (.bool true) ∧ Below w.heap.size w w':=by
 rcases Nat.lt_or_ge 500 n with h | h
 ·exact data_out A n c y x w hn h
 ·obtain ⟨X,rfl⟩:∃ X:Nat,x = (X:Int):=⟨x.toNat,by omega⟩
  exact data_main A n c X y zs w hz h ⟨ly,hy⟩ (by omega)
set_option maxRecDepth 100000 in
theorem data_lifted (os:Os) (started:os.Started) (H:Type) (enc:TypeId × Value → H) :
  ReturnsInHanded {} Tryz.checked os 5 .any (Rows.parseDataSpec.pre6 enc Tryz.prog Tryz.f5 Rows.parseDataRow.domain false) (Rows.parseDataSpec.post enc Tryz.prog Tryz.f5 false true false false):=by
 refine returnsInHanded_of_change (C:=Tryz.checked) own started (by kernel_rfl) Tryz.func5
  (ChangeSpec.witness6 (enc:=enc) (C:=Tryz.checked) false ⟨#[],#[.slice none 0 0,.int .i8 0,.int .u8 0],[]⟩ 8 (by kernel_rfl) (by kernel_rfl) (by kernel_rfl) (by kernel_rfl)) ?_
 intro W base args ds gs before hval0 hW hcnd _
 have hval:∀ (j:Nat) t v,Tryz.f5.params[j]? = some t → args[j]? = some v → Value.okWide Tryz.prog W .any base t v:=hval0
 have hW':=hW
 obtain ⟨p,q,hA0,hV,rfl,hfz,hnd⟩:=hW
 have hA:DataW.TrodAll enc Tryz.prog W 0 (fun _=>true) true Tryz.f5.params.toList args.toList ds p:=hA0
 rw [Tryz.params5] at hA hval
 obtain ⟨v0,vs0,d0,ds0,p0,q0,hargs,rfl,rfl,h0,r0⟩:=trodAll_cons hA
 obtain ⟨v1,vs1,d1,ds1,p1,q1,rfl,rfl,rfl,h1,r1⟩:=trodAll_cons r0
 obtain ⟨v2,vs2,d2,ds2,p2,q2,rfl,rfl,rfl,h2,r2⟩:=trodAll_cons r1
 obtain ⟨rfl,rfl,rfl⟩:=trodAll_nil r2
 obtain rfl:args = #[v0,v1,v2]:=by cases args;simp_all
 obtain ⟨rfl,rfl⟩:=trodVars_none hV
 obtain ⟨a0,len0,cap0,rfl⟩:=okWide_slice Tryz.underlying23 (hval 0 23 v0 rfl rfl)
 obtain ⟨zs0,hz0,hcm0⟩:=open_bytes h0 (fun _=>rfl)
 have lt0:∀ x ∈ p0,x.block < W.heap.size:=by obtain ⟨m,hm⟩:=h0;exact DataW.trod_lt m _ _ _ hm
 obtain ⟨x1,rfl⟩:=okWide_int Tryz.underlying50 (hval 1 50 v1 rfl rfl)
 obtain ⟨lo1,hi1⟩:=open_intk Tryz.underlying50 h1
 rw [show IntKind.i8.min = -128 by decide] at lo1
 rw [show IntKind.i8.max = 127 by decide] at hi1
 have lt1:∀ x ∈ p1,x.block < W.heap.size:=by obtain ⟨m,hm⟩:=h1;exact DataW.trod_lt m _ _ _ hm
 obtain ⟨x2,rfl⟩:=okWide_int Tryz.underlying5 (hval 2 5 v2 rfl rfl)
 obtain ⟨lo2,hi2⟩:=open_intk Tryz.underlying5 h2
 rw [show IntKind.u8.min = 0 by decide] at lo2
 rw [show IntKind.u8.max = 255 by decide] at hi2
 have lt2:∀ x ∈ p2,x.block < W.heap.size:=by obtain ⟨m,hm⟩:=h2;exact DataW.trod_lt m _ _ _ hm
 have hmx:maxLen = 9223372036854775807:=by decide
 clear hA0 hval0
 refine (data_walk a0 len0 cap0 zs0 x1 x2 W hz0 (by have:=hz0.cap;omega) lo1 hi1 lo2 hi2).mono fun e W' ⟨he,bel⟩=>?_
 subst he
 exact ⟨_,rfl,_,_,_,[],_,[],hW',trodAll_mk1 (shut_bool Tryz.underlying4 _),(trodAll_cons_mk (Below.trod laidOut (by kernel_rfl) (of_decide_eq_true (by kernel_rfl)) h0 bel lt0) (trodAll_cons_mk (Below.trod laidOut (by kernel_rfl) (of_decide_eq_true (by kernel_rfl)) h1 bel lt1) (trodAll_cons_mk (Below.trod laidOut (by kernel_rfl) (of_decide_eq_true (by kernel_rfl)) h2 bel lt2) trodAll_mk0))),rfl,bel.frame _,fun h=>by cases h⟩
theorem data_holds:Rows.ParseDataSaid :=
 OpenClaim.holds_of_wide 5 Tryz.f5 rfl rfl rfl rfl rfl rfl rfl ⟨rfl,rfl,rfl,rfl,rfl⟩ rfl rfl rfl rfl rfl (by kernel_rfl) Tryz.func5 (by kernel_rfl)
  (of_decide_eq_true (by kernel_rfl)) (by unfold Func.isWrapper;first | (rw [if_pos (by decide +kernel)];kernel_rfl) | (rw [if_neg (by decide +kernel)];exact ⟨rfl,rfl⟩))
  (fun os started H enc _=>data_lifted os started H enc)
#print axioms data_holds
end Go.Proofs.YtpomkhcobpihmaaGreat
