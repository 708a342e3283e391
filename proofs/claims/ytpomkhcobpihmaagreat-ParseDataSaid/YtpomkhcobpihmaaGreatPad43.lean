/- Lemmas. -/
import Derived.Test.YtpomkhcobpihmaaGreatPad42
namespace Go.Proofs.YtpomkhcobpihmaaGreat
set_option maxRecDepth 100000
set_option linter.unusedVariables false
section
open Go.RowKit
def keysL (l:Ens):List Value:=l.toL.map (fun p=>Value.string p.1)
theorem keysL_len (l:Ens):(keysL l).length = l.len:=by unfold keysL;rw [List.length_map,Ens.toL_len]
theorem keysL_snoc (l:Ens) (s:ByteArray) (x:Ob):keysL (l.snoc s x) = keysL l ++ [.string s]:=by unfold keysL;rw [toL_snoc,List.map_append];rfl
theorem toL_get:∀ (l:Ens) (i:Nat) (t:ByteArray) (x:Ob),l.get? i = some (t,x) → l.toL[i]? = some (t,x)
 | .nil,i,t,x,h=>by simp [Ens.get?] at h
 | .cons s y ys,0,t,x,h=>by simp [Ens.get?] at h;obtain ⟨rfl,rfl⟩:=h;rfl
 | .cons s y ys,i + 1,t,x,h=>by rw [Ens.toL];simpa using toL_get ys i t x (by simpa [Ens.get?] using h)
theorem keysL_get (l:Ens) (i:Nat) (hi:i < l.len):∃ t x,l.get? i = some (t,x) ∧ (keysL l)[i]? = some (.string t):=by
 obtain ⟨t,x,h⟩:=l.get_some i hi
 refine ⟨t,x,h,?_⟩
 unfold keysL
 rw [List.getElem?_map,toL_get l i t x h]
 rfl
theorem getK:∀ (l:Ens) (i:Nat) (t:ByteArray) (x:Ob),l.get? i = some (t,x) → hasK t l = true
 | .nil,i,t,x,h=>by simp [Ens.get?] at h
 | .cons s y ys,0,t,x,h=>by simp [Ens.get?] at h;obtain ⟨rfl,rfl⟩:=h;simp [hasK]
 | .cons s y ys,i + 1,t,x,h=>by
  rw [hasK,getK ys i t x (by simpa [Ens.get?] using h),Bool.or_true]
theorem hasK_get:∀ (l:Ens) (s:ByteArray),(∀ a,a < l.len → ∀ t y,l.get? a = some (t,y) → ¬ t = s) → hasK s l = false
 | .nil,s,h=>rfl
 | .cons t y ys,s,h=>by
  rw [hasK,hasK_get ys s (fun a ha t' y' hg=>h (a + 1) (by rw [Ens.len];omega) t' y' (by simpa [Ens.get?] using hg)),Bool.or_false]
  exact decide_eq_false (h 0 (by rw [Ens.len];omega) t y rfl)
theorem dictF_snoc:∀ (l acc:Ens) (s:ByteArray) (x:Ob),dictF (l.snoc s x) acc = withE s x (dictF l acc) (decide (x.kind = 0))
 | .nil,acc,s,x=>rfl
 | .cons t y ys,acc,s,x=>by rw [Ens.snoc,dictF,dictF,dictF_snoc ys _ s x]
theorem infoStr:(Tryz.prog.info? 9).map (fun i=>(i.zero,i.size,i.bytes)) = some (some (.string ⟨#[]⟩),1,16):=by kernel_rfl
theorem keyAppend {w:World} {base:Nat} {kv:Value} {l:Ens} (h:OwnV w base 9 kv (keysL l)) (hl:l.len ≤ 1000000000) (hb:base ≤ w.heap.size) (s:ByteArray) :
  ∃ A' c' w',(Builtin.append_ #[51,51] 51 #[kv,.slice (some ⟨w.heap.size,0,none⟩) 1 1]).run Tryz.prog (w.alloc (.cells #[.string s] 9)) = .ok (.slice A' (l.len + 1) c') w' ∧ OwnV w' base 9 (.slice A' (l.len + 1) c') (keysL l ++ [.string s]) ∧ KeepX kv w (.slice A' (l.len + 1) c') w':=by
 obtain ⟨i0,hi,hz0,hz1,hz2⟩:=info_parts infoStr
 have hb1:=(Below.refl w.heap.size w).alloc (Nat.le_refl _) (.cells #[.string s] 9)
 have hn:=heap_alloc_new w (.cells #[.string s] 9)
 obtain ⟨v',w',hr,ho,hk,A',c',rfl⟩:=(h.low hb1).append1 51 51 i0 (.string ⟨#[]⟩) 16 Tryz.underlying51 hi hz0 hz1 hz2 rfl (by decide) w.heap.size (.string s) (cell_of_row _ _ 0 _ _ (0,0) hn) rfl (by rw [keysL_len];exact hl) (Nat.le_trans hb hb1.size)
 rw [keysL_len] at hr ho hk
 exact ⟨A',c',w',hr,ho,hk.start hb1⟩
theorem Byt.keepF {w w':World} {B F n c:Nat} {A:Option Addr} {zs:List Int} (h:Byt w B A n c zs) (hf:From F A n) (hk:∀ b,F ≤ b → b < B → w'.heap[b]? = w.heap[b]?):Byt w' B A n c zs :=
 ⟨h.len,h.cap,h.rng,fun hn=>by
  obtain ⟨b,o,e,hlt,hc⟩:=h.cell hn
  exact ⟨b,o,e,hlt,fun j hj=>(World.cell?_of_block (a:=⟨b,o + j,none⟩) (hk b (hf hn b o e) hlt)).trans (hc j hj)⟩⟩
def DcV (w:World) (base:Nat) (kv:Value) (O:Ens) (AV:Option Addr) (cV:Nat):Prop:=EnsV w (ownS noneT w base kv) O AV cV
section
variable {w w':World} {base g cV:Nat} {kv kv':Value} {O:Ens} {AV:Option Addr}
theorem DcV.keepO2 (h:DcV w base kv O AV cV) (ho:Only g w w') (hg:g < base):DcV w' base kv O AV cV :=
 EnsV.keep h (fun b hb=>ho.block b hb.2.1 (by rcases hb.1 with h | h;exact h.elim;omega)) (fun b hb=>⟨hb.1,Nat.lt_of_lt_of_le hb.2.1 ho.size,hb.2.2⟩)
theorem DcV.low (h:DcV w base kv O AV cV) (hb:Below w.heap.size w w'):DcV w' base kv O AV cV :=
 EnsV.keep h (fun b hb2=>hb.block b hb2.2.1) (fun b hb2=>⟨hb2.1,Nat.lt_of_lt_of_le hb2.2.1 hb.size,hb2.2.2⟩)
theorem DcV.keepK (h:DcV w base kv O AV cV) (hk:KeepX kv w kv' w'):DcV w' base kv' O AV cV :=
 EnsV.keep h (fun b hb=>hk.block b hb.2.1 hb.2.2) (fun b hb=>ownS_grow hk hb)
theorem DcV.fin {w0:World} (h:DcV w (w0.heap.size + 2) kv O AV cV):EnsV w (fun y=>(w0.heap.size ≤ y ∧ y ≠ w0.heap.size) ∧ y < w.heap.size) O AV cV :=
 EnsV.keep h (fun _ _=>rfl) (fun b hb=>by
  have:w0.heap.size + 2 ≤ b:=hb.1.elim (fun h=>h.elim) id
  exact ⟨by omega,hb.2.1⟩)
end
set_option maxHeartbeats 8000000 in
theorem rdictC {m n c d:Nat} {A:Option Addr} {zs:List Int} (F:Nat) (IH:∀ f,f < F → RValC m A n c d zs f):REnsC m A n c d zs F:=by
 intro dd w p hdd x hf
 obtain ⟨R,hR⟩:∃ R,parF zs F (.ens .nil) dd p = R:=⟨_,rfl⟩
 rw [hR]
 have HR:=lH hR
 have HX:=lH x
 have HF:=lH hf
 have HIH:=lH IH
 have HDD:=lH hdd
 have HMW:=lH x.lt
 obtain ⟨W0,W1,hW0,hW1,hs0,hrs,hob,hbl,hs1⟩:=two_new w 7
 have HW0:=lH hW0
 have HW1:=lH hW1
 have HRS0:=lH hrs
 have HOB0:=lH hob
 have HBL:=lH hbl
 have HS1:=lH hs1
 clear x hf hR IH hdd hW0 hW1 hs0 hrs hob hbl hs1
 go_enter Tryz.func79,Tryz.ntmps79
 go_wp2_with fail
 rw [HW0.out,HW1.out]
 go_loopw [6] (fun kv wr=>∃ (AK:Option Addr) (cK:Nat) (AV:Option Addr) (cV N M q f':Nat) (l:Ens),kv = .slice AK N cK ∧ Hid (l.len = N ∧ (dictF l .nil).len = M ∧ M ≤ N) ∧ Hid (N ≤ q) ∧ Hid (RX wr m A n c d zs q) ∧ Hid (Only m w wr) ∧ Hid (RsB w.heap.size wr) ∧ Hid (ObB (w.heap.size + 1) wr (.int .i64 7) (.int .i64 0) (.slice none 0 0) (.slice none 0 0) (.slice AV M cV)) ∧ Hid (OwnV wr (w.heap.size + 2) 9 (.slice AK N cK) (keysL l)) ∧ Hid (DcV wr (w.heap.size + 2) (.slice AK N cK) (dictF l .nil) AV cV) ∧ Hid (n - q < f' ∧ f' ≤ F) ∧ Hid (parF zs f' (.ens l) dd q = R) ∧ Hid (w.heap.size + 2 ≤ wr.heap.size)) (fun _ wr=>n + 1 - posR m wr)
 case atStart=>exact ⟨none,0,none,0,0,0,p,F,.nil,rfl,lH ⟨rfl,rfl,Nat.le_refl _⟩,lH (Nat.zero_le _),lH (HX.out.low HBL.out),lH (Only.of_below HBL.out m),HRS0,HOB0,lH (OwnV.nil _ _ _),lH ⟨by simp [dictF,Ens.len],fun h=>absurd h (by simp [dictF,Ens.len])⟩,lH ⟨HF.out,Nat.le_refl _⟩,HR,lH (Nat.le_of_eq HS1.out.symm)⟩
 case round =>
  obtain ⟨AK,cK,AV,cV,N,M,q,f',l,rfl,HN,HNQ,HXq,HOq,HRS,HOB,HKV,HDV,HFF,HPR,HZ⟩:=hrel
  obtain ⟨f,rfl⟩:∃ f,f' = f + 1:=⟨f' - 1,by have:=HFF.out;omega⟩
  have hpr:=HPR.out
  rw [parF] at hpr
  have htk:=rtkC HXq.out
  have hgt:=tokT_gt zs q
  have hbl:=tokT_len zs q
  have hbn:blkP zs q ≤ n:=by have:=(blkP_le zs q HXq.out.pz).2;rw [HXq.out.len] at this;exact this
  have hvl:(tokT zs q).e = 0 → (tokT zs q).k ≠ 0 → ∀ W,RX W m A n c d zs (tokT zs q).q → Calls Tryz.prog 53 #[.pointer (some ⟨m,0,none⟩),.int .i64 dd] W (RvP m A n c d zs W (parF zs f .val dd (tokT zs q).q)):=fun h0 hk W hW=>HIH.out f (by have:=HFF.out;omega) dd W _ HDD.out hW (by have:=tokT_gt zs q h0 hk;have:=hW.pl;have:=HFF.out;omega)
  have hpq:=parF_q zs f .val dd (tokT zs q).q
  have hok:=parF_ok zs (by rw [HXq.out.len];have:=HXq.out.sm;omega) f .val dd (tokT zs q).q (tokT_q zs q HXq.out.pz) trivial
  obtain ⟨V,hV⟩:∃ V,parF zs f .val dd (tokT zs q).q = V:=⟨_,rfl⟩
  rw [hV] at hvl hpr hpq hok
  obtain ⟨T,hT⟩:∃ T,tokT zs q = T:=⟨_,rfl⟩
  obtain ⟨bp,hbp⟩:∃ bp,blkP zs q = bp:=⟨_,rfl⟩
  rw [hT] at hvl hpr hpq htk hgt hbl
  rw [hbp] at hpr htk hbn
  obtain ⟨e,k,v,b,q2⟩:=T
  dsimp only at hvl hpr hpq htk hgt hbl
  obtain ⟨s,hs⟩:∃ s,strOfNums b = s:=⟨_,rfl⟩
  have HS:=lH hs
  rw [hs] at hpr
  obtain ⟨hk,hhk⟩:∃ hk,hasK s l = hk:=⟨_,rfl⟩
  have HHK:=lH hhk
  rw [hhk] at hpr
  have HTK:=lH htk
  have HBN:=lH hbn
  have HOK:=lH hok
  have c1:=HXq.out.c1
  clear hV hT hbp htk HPR hs hhk hbn hbl hok
  by_cases he:e = 0
  ·subst he
   rw [if_neg (by decide)] at hpr
   by_cases h8:k = 8
   ·subst h8
    rw [if_pos rfl] at hpr
    have HPR:=lH hpr
    clear hpr hpq hvl hgt
    go_upto_region 4 with (first
     | (go_at_call 75;refine HTK.out.mono ?_;(rintro r w3 ⟨A3,l3,c3,rfl,hx3,ho3,hy3,hf3⟩);have HX3:=lH hx3;have HO3:=lH ho3;have HY3:=lH hy3;have HF3:=lH hf3;clear hx3 ho3 hy3 hf3))
    have hn4:=Bx.new w3 99 (.int .i64 8) (.int .i64 bp) (.int .i64 v) (.slice A3 l3 c3)
    have hb4:=(Below.refl w3.heap.size w3).alloc (Nat.le_refl _) (.cells #[.int .i64 8,.int .i64 bp,.int .i64 v,.slice A3 l3 c3] 99)
    obtain ⟨w4,hw4⟩:∃ w4,w3.alloc (.cells #[.int .i64 8,.int .i64 bp,.int .i64 v,.slice A3 l3 c3] 99) = w4:=⟨_,rfl⟩
    rw [hw4] at hn4 hb4
    rw [hw4]
    have t0:=hn4.c0
    have t1:=hn4.c1
    have t2:=hn4.c2
    have t3:=hn4.c3
    have HN4:=lH hn4
    have HX4:=lH (HX3.out.low hb4)
    have ho4:=HO3.out.trans (Only.of_below hb4 m)
    have HO4:=lH (HOq.out.trans ho4)
    have HY4:=lH ((HY3.out.below hb4 (Nat.le_refl _)).more hb4.size)
    have HR4:=lH (HRS.out.only ho4 HMW.out)
    have HOB4:=lH (HOB.out.only ho4 (Nat.ne_of_gt (Nat.lt_succ_of_lt HMW.out)))
    have HQ4:=lH ho4
    have HKV4:=lH (HKV.out.same fun b hb=>ho4.block b (HKV.out.lt b hb).1 (by have:=(HKV.out.lt b hb).2;have:=HMW.out;omega))
    have HDV4:=lH (HDV.out.keepO2 ho4 (Nat.lt_succ_of_lt (Nat.lt_succ_of_lt HMW.out)))
    clear hn4 hb4 hw4 ho4
    have HF:=lH (HR4.out.finR (Nat.le_refl _) (ob_dic HDV4.out.fin HN.out.2.1) HX4.out HO4.out HMW.out)
    obtain ⟨r0,r1,r2,r3,r4,r5⟩:=zero_cells HR4.out
    have o0:=HOB4.out.k0
    have o1:=HOB4.out.k1
    have o2:=HOB4.out.k2
    have o3:=HOB4.out.k3
    have o4:=HOB4.out.k4
    go_wp2_with fail
    refine bodyPost_ret (results_cell_row_tmp rfl _ _ w.heap.size 27 _ (0,0) _ rfl HF.out.row Tryz.underlying27 rfl (by kernel_rfl) _ rfl) rfl ?_
    rw [← HPR.out]
    exact ⟨_,_,_,_,_,rfl,HF.out.ob,HF.out.px,HF.out.on⟩
   ·rw [if_neg h8] at hpr
    have h8b:(k == 8) = false:=beq_eq_false_iff_ne.2 h8
    clear h8
    by_cases h0:k = 0
    ·subst h0
     rw [if_pos rfl] at hpr
     have HPR:=lH hpr
     have HST:=lH (fun W (hW:RX W m A n c d zs q2)=>stopC hW bp 2 HBN.out)
     clear hpr hpq hvl hgt
     go_upto_region 4 with (first
      | (go_at_call 75;refine HTK.out.mono ?_;(rintro r w3 ⟨A3,l3,c3,rfl,hx3,ho3,hy3,hf3⟩);have HX3:=lH hx3;have HO3:=lH ho3;have HY3:=lH hy3;have HF3:=lH hf3;clear hx3 ho3 hy3 hf3))
     have hn4:=Bx.new w3 99 (.int .i64 0) (.int .i64 bp) (.int .i64 v) (.slice A3 l3 c3)
     have hb4:=(Below.refl w3.heap.size w3).alloc (Nat.le_refl _) (.cells #[.int .i64 0,.int .i64 bp,.int .i64 v,.slice A3 l3 c3] 99)
     obtain ⟨w4,hw4⟩:∃ w4,w3.alloc (.cells #[.int .i64 0,.int .i64 bp,.int .i64 v,.slice A3 l3 c3] 99) = w4:=⟨_,rfl⟩
     rw [hw4] at hn4 hb4
     rw [hw4]
     have t0:=hn4.c0
     have t1:=hn4.c1
     have t2:=hn4.c2
     have t3:=hn4.c3
     have HN4:=lH hn4
     have HX4:=lH (HX3.out.low hb4)
     have ho4:=HO3.out.trans (Only.of_below hb4 m)
     have HO4:=lH (HOq.out.trans ho4)
     have HY4:=lH ((HY3.out.below hb4 (Nat.le_refl _)).more hb4.size)
     have HR4:=lH (HRS.out.only ho4 HMW.out)
     have HOB4:=lH (HOB.out.only ho4 (Nat.ne_of_gt (Nat.lt_succ_of_lt HMW.out)))
     have HQ4:=lH ho4
     have HKV4:=lH (HKV.out.same fun b hb=>ho4.block b (HKV.out.lt b hb).1 (by have:=(HKV.out.lt b hb).2;have:=HMW.out;omega))
     have HDV4:=lH (HDV.out.keepO2 ho4 (Nat.lt_succ_of_lt (Nat.lt_succ_of_lt HMW.out)))
     clear hn4 hb4 hw4 ho4
     go_wp2_with (first
      | (go_at_call 76;refine (HST.out _ HX4.out).mono ?_;(rintro r w5 ⟨d0,d1,d2,d3,d4,hrr,hob,hx5,ho5⟩);(try dsimp only [noR] at hrr hob hx5);subst hrr;obtain ⟨k5,n5,A5,m5,e5,A6,m6,e6,A7,m7,e7,rfl,rfl,rfl,rfl,rfl⟩:=hob.shp;have HRF:=lH (RsB.only HR4.out ho5 HMW.out);obtain ⟨r0,r1,r2,r3,r4,r5⟩:=zero_cells HRF.out;have HF:=lH (RsB.finRN (w:=w) HR4.out HRF.out (Nat.le_refl _) hob hx5 (Only.trans HO4.out ho5) HMW.out);clear hob hx5 ho5))
     refine bodyPost_ret (results_cell_row_tmp rfl _ _ w.heap.size 27 _ (0,0) _ rfl HF.out.row Tryz.underlying27 rfl (by kernel_rfl) _ rfl) rfl ?_
     rw [← HPR.out]
     exact ⟨_,_,_,_,_,rfl,HF.out.ob,HF.out.px,HF.out.on⟩
    ·rw [if_neg h0] at hpr
     have h0b:(k == 0) = false:=beq_eq_false_iff_ne.2 h0
     have HST:=lH (fun W (hW:RX W m A n c d zs q2)=>stopC hW bp 4 HBN.out)
     by_cases h4:k = 4
     ·subst h4
      clear h0 h0b h8b
      go_upto_region 4 with (first
       | (go_at_call 75;refine HTK.out.mono ?_;(rintro r w3 ⟨A3,l3,c3,rfl,hx3,ho3,hy3,hf3⟩);have HX3:=lH hx3;have HO3:=lH ho3;have HY3:=lH hy3;have HF3:=lH hf3;clear hx3 ho3 hy3 hf3))
      have hn4:=Bx.new w3 99 (.int .i64 4) (.int .i64 bp) (.int .i64 v) (.slice A3 l3 c3)
      have hb4:=(Below.refl w3.heap.size w3).alloc (Nat.le_refl _) (.cells #[.int .i64 4,.int .i64 bp,.int .i64 v,.slice A3 l3 c3] 99)
      obtain ⟨w4,hw4⟩:∃ w4,w3.alloc (.cells #[.int .i64 4,.int .i64 bp,.int .i64 v,.slice A3 l3 c3] 99) = w4:=⟨_,rfl⟩
      rw [hw4] at hn4 hb4
      rw [hw4]
      have t0:=hn4.c0
      have t1:=hn4.c1
      have t2:=hn4.c2
      have t3:=hn4.c3
      have HN4:=lH hn4
      have HX4:=lH (HX3.out.low hb4)
      have ho4:=HO3.out.trans (Only.of_below hb4 m)
      have HO4:=lH (HOq.out.trans ho4)
      have HY4:=lH ((HY3.out.below hb4 (Nat.le_refl _)).more hb4.size)
      have HR4:=lH (HRS.out.only ho4 HMW.out)
      have HOB4:=lH (HOB.out.only ho4 (Nat.ne_of_gt (Nat.lt_succ_of_lt HMW.out)))
      have HQ4:=lH ho4
      have HKV4:=lH (HKV.out.same fun b hb=>ho4.block b (HKV.out.lt b hb).1 (by have:=(HKV.out.lt b hb).2;have:=HMW.out;omega))
      have HDV4:=lH (HDV.out.keepO2 ho4 (Nat.lt_succ_of_lt (Nat.lt_succ_of_lt HMW.out)))
      clear hn4 hb4 hw4 ho4
      have HVL:=lH (hvl (by trivial) (by decide))
      have HGT:=lH (hgt (by trivial) (by decide))
      have HPQ:=lH hpq
      have HPR0:=lH hpr
      have hcv:=fun W (hW:Below w4.heap.size w4 W)=>conv_str (HY4.out.below hW (Nat.le_refl _)) s HS.out
      have HCV:=lH hcv
      clear hvl hgt hpq hpr hcv
      go_wp2_with fail
      go_loopw [10] (fun iv wx=>∃ (i j:Nat),iv = .int .i64 i ∧ i ≤ N ∧ wx = w4.drewN j ∧ Hid (∀ a,a < i → ∀ t y,l.get? a = some (t,y) → ¬ t = s)) (fun iv _=>N - (intOf iv).toNat)
      case atStart=>exact ⟨0,0,rfl,Nat.zero_le _,rfl,lH (fun a ha=>absurd ha (Nat.not_lt_zero _))⟩
      case round =>
       obtain ⟨i,j,rfl,hi,rfl,HNE⟩:=hrel
       have hNb:N ≤ 1000000000:=by have:=HNQ.out;have:=HXq.out.pl;have:=HXq.out.sm;omega
       by_cases hlt:i < N
       ·have hgi:=keysL_get l i (by rw [HN.out.1];exact hlt)
        obtain ⟨t,y,hg,hkl⟩:=hgi
        have hcell:=HKV4.out.cell (by rw [keysL_len,HN.out.1];omega)
        obtain ⟨gk,ck,ek,hgk,hck⟩:=hcell
        injection ek with ek1 ek2 ek3
        subst ek1
        have hci:=hck i (by rw [keysL_len,HN.out.1];exact hlt)
        have hkv:=List.getElem?_eq_some_iff.1 hkl
        obtain ⟨hkl1,hkl2⟩:=hkv
        rw [hkl2] at hci
        have hin:(i:Int) < N:=by omega
        have hcv:=fun k=>conv_str ((HY4.out.drewN j).drewN k) s HS.out
        by_cases hts:t = s
        ·subst hts
         have hh:hk = true:=by rw [← HHK.out];exact getK l i t y hg
         subst hh
         have hpr:=HPR0.out
         rw [if_pos (.inr rfl)] at hpr
         have HPR:=lH hpr
         have HR4d:Hid (RsB w.heap.size ((w4.drewN j).drewN 1)):=lH HR4.out
         clear hpr hkl1 hkl2 hkl hck hgk hg ek2 ek3
         go_upto_region 15 with fail
         refine wp_region_heldR (fun W=>W.cell? ⟨gk,i,none⟩ = some (.string t) ∧ W.cell? ⟨w3.heap.size,3,none⟩ = some (.slice A3 l3 c3) ∧ (convert 23 9 (.slice A3 l3 c3)).run Tryz.prog W = .ok (.string t) W) 1000 (by kernel_rfl) ⟨hci,HN4.out.c3,hcv 1⟩ (fun hHeld=>?_)
         refine tkQ 0 ?_
         try simp only [Act.put,aS2,aS0,aS1]
         refine tkQ 1 ?_
         try simp only [Act.put,aS2,aS0,aS1]
         refine tkQ 2 ?_
         try simp only [Act.put,aS2,aS0,aS1]
         refine tkQ 3 ?_
         try simp only [Act.put,aS2,aS0,aS1]
         refine tkQ 4 ?_
         try simp only [Act.put,aS2,aS0,aS1]
         refine tkQ 5 ?_
         try simp only [Act.put,aS2,aS0,aS1]
         refine tkQ 6 ?_
         try simp only [Act.put,aS2,aS0,aS1]
         refine tkQ 7 ?_
         try simp only [Act.put,aS2,aS0,aS1]
         refine wpAnyR_done (by kernel_rfl) ?_
         refine NoPanic.normal ?_
         go_wp2_with (first
          | (go_at_call 76;refine (HST.out _ ((HX4.out.drewN j).drewN 1)).mono ?_;(rintro r w5 ⟨d0,d1,d2,d3,d4,hrr,hob,hx5,ho5⟩);(try dsimp only [noR] at hrr hob hx5);subst hrr;obtain ⟨k5,n5,A5,m5,e5,A6,m6,e6,A7,m7,e7,rfl,rfl,rfl,rfl,rfl⟩:=hob.shp;have HRF:=lH (RsB.only HR4d.out ho5 HMW.out);obtain ⟨r0,r1,r2,r3,r4,r5⟩:=zero_cells HRF.out;have HF:=lH (RsB.finRN (w:=w) HR4d.out HRF.out (Nat.le_refl _) hob hx5 (Only.trans ((HO4.out.drewN j).drewN 1) ho5) HMW.out);clear hob hx5 ho5))
         refine bodyPost_ret (results_cell_row_tmp rfl _ _ w.heap.size 27 _ (0,0) _ rfl HF.out.row Tryz.underlying27 rfl (by kernel_rfl) _ rfl) rfl ?_
         rw [← HPR.out]
         exact ⟨_,_,_,_,_,rfl,HF.out.ob,HF.out.px,HF.out.on⟩
        ·have hbe:(t.toList == s.toList) = false:=str_ne hts
         have HNE2:Hid (∀ a,a < i + 1 → ∀ t y,l.get? a = some (t,y) → ¬ t = s):=lH (fun a ha t' y' hg'=>by
          rcases Nat.lt_or_ge a i with h | h
          ·exact HNE.out a h t' y' hg'
          ·obtain rfl:a = i:=by omega
           rw [hg] at hg'
           injection hg' with hg'
           injection hg' with h1 h2
           rw [← h1];exact hts)
         clear hkl1 hkl2 hkl hck hgk hg ek2 ek3 hts
         go_upto_region 15 with fail
         refine wp_region_heldR (fun W=>W.cell? ⟨gk,i,none⟩ = some (.string t) ∧ W.cell? ⟨w3.heap.size,3,none⟩ = some (.slice A3 l3 c3) ∧ (convert 23 9 (.slice A3 l3 c3)).run Tryz.prog W = .ok (.string s) W) 1000 (by kernel_rfl) ⟨hci,HN4.out.c3,hcv 1⟩ (fun hHeld=>?_)
         refine tkQ 0 ?_
         try simp only [Act.put,aS2,aS0,aS1]
         refine tkQ 1 ?_
         try simp only [Act.put,aS2,aS0,aS1]
         refine tkQ 2 ?_
         try simp only [Act.put,aS2,aS0,aS1]
         refine tkQ 3 ?_
         try simp only [Act.put,aS2,aS0,aS1]
         refine tkQ 4 ?_
         try simp only [Act.put,aS2,aS0,aS1]
         refine tkQ 5 ?_
         try simp only [Act.put,aS2,aS0,aS1]
         refine tkQ 6 ?_
         try simp only [Act.put,aS2,aS0,aS1]
         refine tkQ 7 ?_
         try simp only [Act.put,aS2,aS0,aS1]
         refine wpAnyR_done (by kernel_rfl) ?_
         refine NoPanic.normal ?_
         go_wp2_with fail
         go_roundw
         case rel=>exact ⟨i + 1,j + 1,by go_num,by omega,rfl,HNE2⟩
         case measure=>simp [intOf];omega
       ·obtain rfl:i = N:=by omega
        have hh:hk = false:=by rw [← HHK.out];exact hasK_get l s (fun a ha t y hg=>HNE.out a (by rw [← HN.out.1];exact ha) t y hg)
        subst hh
        have hpr:=HPR0.out
        rw [if_neg (fun h=>h.elim (fun h=>h rfl) (fun h=>by cases h))] at hpr
        have HPR2:=lH hpr
        clear hpr HPR0
        have HX5:=lH (HX4.out.drewN j)
        have HO5:=lH (HO4.out.drewN j)
        have HR5:Hid (RsB w.heap.size (w4.drewN j)):=lH HR4.out
        have HOB5:Hid (ObB (w.heap.size + 1) (w4.drewN j) (.int .i64 7) (.int .i64 0) (.slice none 0 0) (.slice none 0 0) (.slice AV M cV)):=lH HOB4.out
        have HKV5:=lH (HKV4.out.drewN j)
        have HDV5:=lH (HDV4.out.low (below_drewN (Below.refl _ _) j))
        have HN5:=lH (HN4.out.drewN j)
        have HY5:Hid (Byt (w4.drewN j) (w4.drewN j).heap.size A3 l3 c3 b):=lH (HY4.out.drewN j)
        have HZ5:Hid (w.heap.size + 2 ≤ (w4.drewN j).heap.size):=lH (Nat.le_trans HZ.out HQ4.out.size)
        have HW3:Hid (w3.heap.size < (w4.drewN j).heap.size):=lH HN4.out.lt
        have HKL:Hid (∀ b,(Value.slice AK i cK).ownBlock = some b → b < wr.heap.size):=lH (fun b hb=>(HKV.out.lt b hb).1)
        have HWR:Hid (wr.heap.size ≤ w3.heap.size):=lH HO3.out.size
        obtain ⟨W5,hW5⟩:∃ W5,w4.drewN j = W5:=⟨_,rfl⟩
        rw [hW5] at HX5 HO5 HR5 HOB5 HKV5 HDV5 HN5 HY5 HZ5 HW3
        rw [hW5]
        clear hW5 t0 t1 t2 t3 HX4 HO4 HR4 HOB4 HKV4 HDV4 HN4 HY4 HCV HNE
        have t0:=HN5.out.c0
        have t1:=HN5.out.c1
        have t2:=HN5.out.c2
        have t3:=HN5.out.c3
        have hcv:=conv_str HY5.out s HS.out
        have hap:=keyAppend HKV5.out (by rw [HN.out.1];have:=HNQ.out;have:=HXq.out.pl;have:=HXq.out.sm;omega) HZ5.out s
        rw [HN.out.1] at hap
        have HAP:=lH hap
        clear hap
        go_upto_region 18 with (first
         | (at_builtin;obtain ⟨A6,c6,w6,hrun,ho6,hk6⟩:=HAP.out;refine Lib.wpList_append_run_sl _ rfl (.tmp 70) (.tmp 74) 51 rfl _ _ rfl rfl hrun ?_;clear hrun;have HKV6:=lH ho6;have HK6:=lH hk6;clear ho6 hk6))
        have hb6:=HK6.out.below HZ5.out (fun b hb=>(HKV5.out.lt b hb).2)
        have HX6:=lH (HX5.out.lowB hb6 (Nat.lt_succ_of_lt (Nat.lt_succ_of_lt HMW.out)))
        have HO6:=lH (HO5.out.lowB (hb6.mono (Nat.le_add_right _ 2)))
        have HR6:Hid (RsB w.heap.size w6):=lH ((hb6.block _ (by omega)).trans HR5.out)
        have HOB6:=lH (HOB5.out.low hb6 (Nat.lt_succ_self _))
        have HDV6:=lH (HDV5.out.keepK HK6.out)
        have HZ6:=lH (Nat.le_trans HZ5.out HK6.out.size)
        have HN6:=lH (HN5.out.keep (HK6.out.block _ HW3.out (fun e=>by have:=HKL.out _ e;have:=HWR.out;omega)))
        have HY6:=lH (HY5.out.keepF HF3.out (fun b hb hl=>HK6.out.block b hl (fun e=>by have:=HKL.out _ e;omega)))
        have HW36:Hid (w3.heap.size < w6.heap.size):=lH (Nat.lt_of_lt_of_le HW3.out HK6.out.size)
        clear hb6 t0 t1 t2 t3 hcv
        go_upto_region 19 with (first
         | (go_at_call 53;refine (HVL.out _ HX6.out).mono ?_;(rintro r w7 ⟨d0,d1,d2,d3,d4,hrr,hob,hx7,ho7⟩);subst hrr;obtain ⟨k7,n7,A5,m5,e5,A61,m6,e6,A7,m7,e7,rfl,rfl,rfl,rfl,rfl⟩:=hob.shp;have HOX:=lH hob;have HX7:=lH hx7;have HO7:=lH ho7;clear hob hx7 ho7))
        have hb8:=(Below.refl w7.heap.size w7).alloc (Nat.le_refl _) (.cells #[.int .i64 k7,.int .i64 n7,.slice A5 m5 e5,.slice A61 m6 e6,.slice A7 m7 e7] 27)
        have hn8:=heap_alloc_new w7 (.cells #[.int .i64 k7,.int .i64 n7,.slice A5 m5 e5,.slice A61 m6 e6,.slice A7 m7 e7] 27)
        obtain ⟨w8,hw8⟩:∃ w8,w7.alloc (.cells #[.int .i64 k7,.int .i64 n7,.slice A5 m5 e5,.slice A61 m6 e6,.slice A7 m7 e7] 27) = w8:=⟨_,rfl⟩
        rw [hw8] at hb8 hn8
        rw [hw8]
        have c0:w8.cell? ⟨w7.heap.size,0,none⟩ = some (.int .i64 k7):=cell_of_row _ _ 0 _ _ (0,0) hn8
        have cc1:w8.cell? ⟨w7.heap.size,1,none⟩ = some (.int .i64 n7):=cell_of_row _ _ 1 _ _ (0,0) hn8
        have c2:w8.cell? ⟨w7.heap.size,2,none⟩ = some (.slice A5 m5 e5):=cell_of_row _ _ 2 _ _ (0,0) hn8
        have cc3:w8.cell? ⟨w7.heap.size,3,none⟩ = some (.slice A61 m6 e6):=cell_of_row _ _ 3 _ _ (0,0) hn8
        have c4:w8.cell? ⟨w7.heap.size,4,none⟩ = some (.slice A7 m7 e7):=cell_of_row _ _ 4 _ _ (0,0) hn8
        have hm2:m < w.heap.size + 2:=Nat.lt_succ_of_lt (Nat.lt_succ_of_lt HMW.out)
        have HX8:=lH (HX7.out.low hb8)
        have HO8:=lH ((HO6.out.trans HO7.out).trans (Only.of_below hb8 m))
        have HR8:=lH ((HR6.out.only HO7.out HMW.out).low hb8)
        have hob8:=HOB6.out.only HO7.out (Nat.ne_of_gt (Nat.lt_succ_of_lt HMW.out))
        have HOB8:=lH (hob8.low hb8 hob8.lt)
        have HDV8:=lH ((HDV6.out.keepO2 HO7.out hm2).low hb8)
        have HKV8:=lH ((HKV6.out.same fun b hb=>HO7.out.block b (HKV6.out.lt b hb).1 (by have:=(HKV6.out.lt b hb).2;omega)).low hb8)
        have hn68:=(HN6.out.only HO7.out (by have:=HWR.out;have:=HZ.out;omega)).below hb8 (Nat.lt_of_lt_of_le HW36.out HO7.out.size)
        have HY8:=lH ((HY6.out.keepF HF3.out (fun b hb hl=>HO7.out.block b (Nat.lt_of_lt_of_le hl HK6.out.size) (by have:=HZ.out;omega))).below hb8 (Nat.le_trans HK6.out.size HO7.out.size))
        have HOX8:=lH (ObR.keep (S':=fun b=>b < w8.heap.size) (fun b hb=>hb8.block b hb.2) (fun b hb=>Nat.lt_of_lt_of_le hb.2 hb8.size) _ HOX.out)
        have HZ8:=lH (Nat.le_trans HZ6.out (Nat.le_trans HO7.out.size hb8.size))
        have t3:=hn68.c3
        have ob4:=HOB8.out.k4
        have HWS8:Hid (W5.heap.size ≤ w8.heap.size):=lH (Nat.le_trans HK6.out.size (Nat.le_trans HO7.out.size hb8.size))
        clear hb8 hn8 hw8 hob8 hn68
        by_cases hE:V.e = 0
        ·have hpr:=HPR2.out
         rw [if_neg (fun h=>h hE)] at hpr
         have HPR:=lH hpr
         have HPV:=lH (HPQ.out hE)
         obtain ⟨E,X,q5⟩:=V
         dsimp only at hE HPR HPV HOX8 HX8
         subst hE
         have hwi:=withC s X (dictF l .nil) (ownS noneT w8 (w.heap.size + 2) (.slice A6 (i + 1) c6)) (fun b=>b < w8.heap.size) w8 AV cV _ _ _ _ _ HDV8.out.1 HDV8.out.2 HOX8.out (fun b hb=>hb.2.1) (fun b hb=>hb) HOK.out (by rw [HN.out.2.1];have:=HN.out.2.2;have:=HNQ.out;have:=HXq.out.pl;have:=HXq.out.sm;omega)
         rw [HN.out.2.1,← dictF_snoc] at hwi
         have hl2:(dictF (l.snoc s X) .nil).len ≤ i + 1:=by
          rw [dictF_snoc]
          have:=withE_len s X (dictF l .nil) (decide (X.kind = 0))
          have:=HN.out.2
          omega
         obtain ⟨M2,hM2⟩:∃ M2,(dictF (l.snoc s X) .nil).len = M2:=⟨_,rfl⟩
         rw [hM2] at hl2
         have HWI:=lH hwi
         have HM2:=lH hM2
         have HL2:=lH hl2
         have hcv:=conv_str HY8.out s HS.out
         clear hwi hM2 hl2 hpr
         go_wp2_with (first
          | (go_at_call 83;refine HWI.out.mono ?_;(rintro r w9 ⟨A9,c9,rfl,hc9,hx9,hb9⟩);rw [HM2.out] at hc9 hx9 ⊢;have HX9:=lH (HX8.out.low hb9);have HO9:=lH (HO8.out.trans (Only.of_below hb9 m));have HR9:=lH (HR8.out.low hb9);have HOB9:=lH (HOB8.out.low hb9 HOB8.out.lt);have HKV9:=lH (HKV8.out.low hb9);have HZ9:=lH (Nat.le_trans HZ8.out hb9.size);have HC9:=lH hc9;have HD9:=lH hx9;have f9:=HOB9.out.fr 4;have o9:=HOB9.out.k4;have HS9:=lH hb9.size;clear hc9 hx9 hb9))
         have hset:=(Only.refl (w.heap.size + 1) w9).set_ 4 (.slice A9 M2 c9)
         have hzz:(w9.setCell ⟨w.heap.size + 1,4,none⟩ (.slice A9 M2 c9)).heap.size = w9.heap.size:=by simp [World.setCell]
         have HX11:=lH (HX9.out.keepO hset (Nat.lt_succ_of_lt HMW.out) (by have:=HZ9.out;omega))
         have HO11:Hid (Only m w (w9.setCell ⟨w.heap.size + 1,4,none⟩ (.slice A9 M2 c9))):=lH (HO9.out.setN (Nat.le_succ _) 4 _)
         have HR11:Hid (RsB w.heap.size (w9.setCell ⟨w.heap.size + 1,4,none⟩ (.slice A9 M2 c9))):=lH ((hset.block _ (by have:=HZ9.out;omega) (by omega)).trans HR9.out)
         have HOB11:=lH (HOB9.out.put4 (.slice A9 M2 c9))
         have HZ11:Hid (w.heap.size + 2 ≤ (w9.setCell ⟨w.heap.size + 1,4,none⟩ (.slice A9 M2 c9)).heap.size):=lH (by rw [hzz];exact HZ9.out)
         have HKV11:=lH (HKV9.out.same fun b hb=>hset.block b (HKV9.out.lt b hb).1 (by have:=(HKV9.out.lt b hb).2;omega))
         have HDV11:Hid (DcV (w9.setCell ⟨w.heap.size + 1,4,none⟩ (.slice A9 M2 c9)) (w.heap.size + 2) (.slice A6 (i + 1) c6) (dictF (l.snoc s X) .nil) A9 c9):=lH ⟨by rw [HM2.out];exact HC9.out,fun h0=>by
          obtain ⟨g,o,e,hg,hx⟩:=HD9.out (by rw [← HM2.out];exact h0)
          have key:∀ b,(ownS noneT w8 (w.heap.size + 2) (.slice A6 (i + 1) c6) b ∨ w8.heap.size ≤ b) ∧ b < w9.heap.size → ownS noneT (w9.setCell ⟨w.heap.size + 1,4,none⟩ (.slice A9 M2 c9)) (w.heap.size + 2) (.slice A6 (i + 1) c6) b:=fun b hb=>by
           refine ⟨.inr ?_,by rw [hzz];exact hb.2,fun e=>?_⟩
           ·rcases hb.1 with h | h
            ·exact h.1.elim (fun h=>h.elim) id
            ·have:=HZ8.out;omega
           ·rcases hb.1 with h | h
            ·exact h.2.2 e
            ·have:=(HKV8.out.lt b e).1;omega
          exact ⟨g,o,e,key g hg,EnsR.keep (fun b hb=>hset.block b hb.2 (by have:=(key b hb).1.elim (fun h=>h.elim) id;omega)) key _ g o (key g hg) hg hx⟩⟩
         clear hset hzz
         go_roundw
         case rel=>exact ⟨A6,c6,A9,c9,i + 1,M2,q5,f,l.snoc s X,rfl,lH ⟨by rw [Ens.snoc_len,HN.out.1],HM2.out,HL2.out⟩,lH (by have:=HNQ.out;have:=HPV.out;have:=HGT.out;omega),HX11,HO11,HR11,HOB11,lH (by rw [keysL_snoc];exact HKV11.out),HDV11,lH (by have:=HFF.out;have:=HPV.out;have:=HGT.out;have:=HX11.out.pl;omega),HPR,HZ11⟩
         case measure=>have:=HX11.out.pos;have:=HXq.out.pos;have:=HPV.out;have:=HGT.out;have:=HX11.out.pl;omega
        ·have hpr:=HPR2.out
         rw [if_pos hE] at hpr
         have HPR:=lH hpr
         obtain ⟨E,X,q5⟩:=V
         dsimp only at hE HPR HX8
         have hEb:(E == 0) = false:=beq_eq_false_iff_ne.2 hE
         have HF:=lH (HR8.out.finR (Nat.le_refl _) (ob_nul _ _) HX8.out HO8.out HMW.out)
         obtain ⟨r0,r1,r2,r3,r4,r5⟩:=zero_cells HR8.out
         clear hE hpr
         go_wp2_with fail
         refine bodyPost_ret (results_cell_row_tmp rfl _ _ w.heap.size 27 _ (0,0) _ rfl HF.out.row Tryz.underlying27 rfl (by kernel_rfl) _ rfl) rfl ?_
         rw [← HPR.out]
         exact ⟨_,_,_,_,_,rfl,HF.out.ob,HF.out.px,HF.out.on⟩
     ·rw [if_pos (.inl h4)] at hpr
      have h4b:(k == 4) = false:=beq_eq_false_iff_ne.2 h4
      have HPR:=lH hpr
      clear hpr hpq hvl hgt h4 h0
      go_upto_region 4 with (first
       | (go_at_call 75;refine HTK.out.mono ?_;(rintro r w3 ⟨A3,l3,c3,rfl,hx3,ho3,hy3,hf3⟩);have HX3:=lH hx3;have HO3:=lH ho3;have HY3:=lH hy3;have HF3:=lH hf3;clear hx3 ho3 hy3 hf3))
      have hn4:=Bx.new w3 99 (.int .i64 k) (.int .i64 bp) (.int .i64 v) (.slice A3 l3 c3)
      have hb4:=(Below.refl w3.heap.size w3).alloc (Nat.le_refl _) (.cells #[.int .i64 k,.int .i64 bp,.int .i64 v,.slice A3 l3 c3] 99)
      obtain ⟨w4,hw4⟩:∃ w4,w3.alloc (.cells #[.int .i64 k,.int .i64 bp,.int .i64 v,.slice A3 l3 c3] 99) = w4:=⟨_,rfl⟩
      rw [hw4] at hn4 hb4
      rw [hw4]
      have t0:=hn4.c0
      have t1:=hn4.c1
      have t2:=hn4.c2
      have t3:=hn4.c3
      have HN4:=lH hn4
      have HX4:=lH (HX3.out.low hb4)
      have ho4:=HO3.out.trans (Only.of_below hb4 m)
      have HO4:=lH (HOq.out.trans ho4)
      have HY4:=lH ((HY3.out.below hb4 (Nat.le_refl _)).more hb4.size)
      have HR4:=lH (HRS.out.only ho4 HMW.out)
      have HOB4:=lH (HOB.out.only ho4 (Nat.ne_of_gt (Nat.lt_succ_of_lt HMW.out)))
      have HQ4:=lH ho4
      have HKV4:=lH (HKV.out.same fun b hb=>ho4.block b (HKV.out.lt b hb).1 (by have:=(HKV.out.lt b hb).2;have:=HMW.out;omega))
      have HDV4:=lH (HDV.out.keepO2 ho4 (Nat.lt_succ_of_lt (Nat.lt_succ_of_lt HMW.out)))
      clear hn4 hb4 hw4 ho4
      go_wp2_with (first
       | (go_at_call 76;refine (HST.out _ HX4.out).mono ?_;(rintro r w5 ⟨d0,d1,d2,d3,d4,hrr,hob,hx5,ho5⟩);(try dsimp only [noR] at hrr hob hx5);subst hrr;obtain ⟨k5,n5,A5,m5,e5,A6,m6,e6,A7,m7,e7,rfl,rfl,rfl,rfl,rfl⟩:=hob.shp;have HRF:=lH (RsB.only HR4.out ho5 HMW.out);obtain ⟨r0,r1,r2,r3,r4,r5⟩:=zero_cells HRF.out;have HF:=lH (RsB.finRN (w:=w) HR4.out HRF.out (Nat.le_refl _) hob hx5 (Only.trans HO4.out ho5) HMW.out);clear hob hx5 ho5))
      refine bodyPost_ret (results_cell_row_tmp rfl _ _ w.heap.size 27 _ (0,0) _ rfl HF.out.row Tryz.underlying27 rfl (by kernel_rfl) _ rfl) rfl ?_
      rw [← HPR.out]
      exact ⟨_,_,_,_,_,rfl,HF.out.ob,HF.out.px,HF.out.on⟩
  ·rw [if_pos he] at hpr
   have HPR:=lH hpr
   have heb:(e == 0) = false:=beq_eq_false_iff_ne.2 he
   clear hpr hpq hvl hgt he
   go_upto_region 4 with (first
    | (go_at_call 75;refine HTK.out.mono ?_;(rintro r w3 ⟨A3,l3,c3,rfl,hx3,ho3,hy3,hf3⟩);have HX3:=lH hx3;have HO3:=lH ho3;have HY3:=lH hy3;have HF3:=lH hf3;clear hx3 ho3 hy3 hf3))
   have hn4:=Bx.new w3 99 (.int .i64 k) (.int .i64 bp) (.int .i64 v) (.slice A3 l3 c3)
   have hb4:=(Below.refl w3.heap.size w3).alloc (Nat.le_refl _) (.cells #[.int .i64 k,.int .i64 bp,.int .i64 v,.slice A3 l3 c3] 99)
   obtain ⟨w4,hw4⟩:∃ w4,w3.alloc (.cells #[.int .i64 k,.int .i64 bp,.int .i64 v,.slice A3 l3 c3] 99) = w4:=⟨_,rfl⟩
   rw [hw4] at hn4 hb4
   rw [hw4]
   have t0:=hn4.c0
   have t1:=hn4.c1
   have t2:=hn4.c2
   have t3:=hn4.c3
   have HN4:=lH hn4
   have HX4:=lH (HX3.out.low hb4)
   have ho4:=HO3.out.trans (Only.of_below hb4 m)
   have HO4:=lH (HOq.out.trans ho4)
   have HY4:=lH ((HY3.out.below hb4 (Nat.le_refl _)).more hb4.size)
   have HR4:=lH (HRS.out.only ho4 HMW.out)
   have HOB4:=lH (HOB.out.only ho4 (Nat.ne_of_gt (Nat.lt_succ_of_lt HMW.out)))
   have HQ4:=lH ho4
   have HKV4:=lH (HKV.out.same fun b hb=>ho4.block b (HKV.out.lt b hb).1 (by have:=(HKV.out.lt b hb).2;have:=HMW.out;omega))
   have HDV4:=lH (HDV.out.keepO2 ho4 (Nat.lt_succ_of_lt (Nat.lt_succ_of_lt HMW.out)))
   clear hn4 hb4 hw4 ho4
   have HF:=lH (HR4.out.finR (Nat.le_refl _) (ob_nul _ _) HX4.out HO4.out HMW.out)
   obtain ⟨r0,r1,r2,r3,r4,r5⟩:=zero_cells HR4.out
   go_wp2_with fail
   refine bodyPost_ret (results_cell_row_tmp rfl _ _ w.heap.size 27 _ (0,0) _ rfl HF.out.row Tryz.underlying27 rfl (by kernel_rfl) _ rfl) rfl ?_
   rw [← HPR.out]
   exact ⟨_,_,_,_,_,rfl,HF.out.ob,HF.out.px,HF.out.on⟩
end
section
open Go.RowKit
def ValC (m h g:Nat) (A:Option Addr) (n c d:Nat) (zs:List Int) (f:Nat):Prop :=
 ∀ (dd:Nat) (w:World) (p:Nat),dd < 1000 → PX w m h g A n c d zs p → n - p < f → Calls Tryz.prog 38 #[.pointer (some ⟨m,0,none⟩),.int .i64 dd] w (VaP m h g A n c d zs w (parF zs f .val dd p))
set_option maxHeartbeats 2000000 in
theorem valueC {m h g n c d:Nat} {A:Option Addr} {zs:List Int} (f:Nat) (IH:ItsC m h g A n c d zs f ∧ EnsC12 m h g A n c d zs f):ValC m h g A n c d zs (f + 1):=by
 intro dd w p hdd x hf
 have hx0:=x.alloc (.cells #[.int .i64 0,.int .i64 0,.slice none 0 0,.slice none 0 0,.slice none 0 0] 27)
 have ho0:=(Only.refl g w).alloc (.cells #[.int .i64 0,.int .i64 0,.slice none 0 0,.slice none 0 0,.slice none 0 0] 27)
 have hr0:=RsB.new w
 obtain ⟨W0,hW0⟩:∃ W0,w.alloc (.cells #[.int .i64 0,.int .i64 0,.slice none 0 0,.slice none 0 0,.slice none 0 0] 27) = W0:=⟨_,rfl⟩
 rw [hW0] at hx0 ho0 hr0
 have htk:=ptkC hx0
 have hbg:∀ W A' l' c',PX W m h g A n c d zs (tokT zs p).q → (tokT zs p).e = 0 → Byt W W.heap.size A' l' c' (tokT zs p).b → Calls Tryz.prog 62 #[.pointer (some ⟨m,0,none⟩),tkA (tokT zs p).k (blkP zs p) (tokT zs p).v A' l' c',.int .i64 dd] W (VaP m h g A n c d zs W (begR zs (fun d q=>parF zs f (.its .nil) d q) (fun d q=>parF zs f (.ens .nil) d q) (tokT zs p) (blkP zs p) dd)):=fun W A' l' c' hW h0 hy=>begunC f IH hW dd A' l' c' hdd x.lx.pl hf h0 hy
 have HWB:Hid (w.heap.size ≤ w.heap.size):=lH (Nat.le_refl _)
 have HLT:Hid (m < w.heap.size ∧ h < w.heap.size ∧ g < w.heap.size):=lH ⟨x.lt,x.lx.lt,x.lx.cu.lt⟩
 have k0:=hx0.k0
 have HO0:=lH ho0
 have HR0:=lH hr0
 have HW0:=lH hW0
 have HNO:=lH (fun W=>noneC W)
 rw [parF]
 obtain ⟨B,hB⟩:∃ B,begR zs (fun d q=>parF zs f (.its .nil) d q) (fun d q=>parF zs f (.ens .nil) d q) (tokT zs p) (blkP zs p) dd = B:=⟨_,rfl⟩
 rw [hB] at hbg ⊢
 obtain ⟨T,hT⟩:∃ T,tokT zs p = T:=⟨_,rfl⟩
 obtain ⟨bp,hbp⟩:∃ bp,blkP zs p = bp:=⟨_,rfl⟩
 rw [hT] at hbg htk ⊢
 rw [hbp] at hbg htk
 obtain ⟨e,k,v,b,q2⟩:=T
 dsimp only at hbg htk ⊢
 have HTK:=lH htk
 have HBG:=lH hbg
 clear hx0 ho0 hr0 hW0 htk hbg x hf hdd IH hB hT hbp
 by_cases he:e = 0
 ·subst he
  rw [if_neg (by decide)]
  obtain ⟨E,X,q5⟩:=B
  go_enter Tryz.func38,Tryz.ntmps38
  go_upto_region 1 with fail
  rw [HW0.out]
  go_upto_region 2 with (first
   | (go_at_call 50;refine HTK.out.mono ?_;(rintro r w3 ⟨A3,l3,c3,rfl,hx3,ho3,hy3,hf3⟩);have HX3:=lH hx3;have HO3:=lH ho3;have HY3:=lH hy3;clear hx3 ho3 hy3 hf3))
  have hn4:=Bx.new w3 95 (.int .i64 k) (.int .i64 bp) (.int .i64 v) (.slice A3 l3 c3)
  have hx4:=HX3.out.alloc (.cells #[.int .i64 k,.int .i64 bp,.int .i64 v,.slice A3 l3 c3] 95)
  have ho4:=HO3.out.alloc (.cells #[.int .i64 k,.int .i64 bp,.int .i64 v,.slice A3 l3 c3] 95)
  have hy4:=HY3.out.alloc (Nat.le_refl _) (.cells #[.int .i64 k,.int .i64 bp,.int .i64 v,.slice A3 l3 c3] 95)
  obtain ⟨w4,hw4⟩:∃ w4,w3.alloc (.cells #[.int .i64 k,.int .i64 bp,.int .i64 v,.slice A3 l3 c3] 95) = w4:=⟨_,rfl⟩
  have hs4:w3.heap.size ≤ w4.heap.size:=by rw [← hw4];simp
  rw [hw4] at hn4 hx4 ho4 hy4
  rw [hw4]
  have t0:=hn4.c0
  have t1:=hn4.c1
  have t2:=hn4.c2
  have t3:=hn4.c3
  have HX4:=lH hx4
  have HO4:=lH (HO0.out.trans ho4)
  have HY4:=lH (hy4.more hs4)
  have HR4:=lH (HR0.out.only ho4 HLT.out.2.2)
  clear hn4 hx4 ho4 hy4 hw4 hs4
  go_wp2_with (first
   | (go_at_call 62;refine (HBG.out _ _ _ _ HX4.out (by trivial) HY4.out).mono ?_;(rintro r w5 ⟨d0,d1,d2,d3,d4,hrr,hob,hx5,ho5⟩);(try dsimp only at hrr hob hx5);subst hrr;obtain ⟨k5,n5,A5,m5,e5,A6,m6,e6,A7,m7,e7,rfl,rfl,rfl,rfl,rfl⟩:=hob.shp;have HRF:=lH (HR4.out.only ho5 HLT.out.2.2);obtain ⟨r0,r1,r2,r3,r4,r5⟩:=zero_cells HRF.out;have HF:=lH (RsB.finN (w:=w) HR4.out HRF.out HWB.out hob hx5 (HO4.out.trans ho5) HLT.out);clear hob hx5 ho5))
  refine bodyPost_ret (results_cell_row_tmp rfl _ _ w.heap.size 27 _ (0,0) _ rfl HF.out.row Tryz.underlying27 rfl (by kernel_rfl) _ rfl) rfl ?_
  exact ⟨_,_,_,_,_,rfl,HF.out.ob,HF.out.px,HF.out.on⟩
 ·rw [if_pos he]
  have heb:(e == 0) = false:=beq_eq_false_iff_ne.2 he
  clear he HBG
  go_enter Tryz.func38,Tryz.ntmps38
  go_upto_region 1 with fail
  rw [HW0.out]
  go_upto_region 2 with (first
   | (go_at_call 50;refine HTK.out.mono ?_;(rintro r w3 ⟨A3,l3,c3,rfl,hx3,ho3,hy3,hf3⟩);have HX3:=lH hx3;have HO3:=lH ho3;clear hx3 ho3 hy3 hf3))
  have hx4:=HX3.out.alloc (.cells #[.int .i64 k,.int .i64 bp,.int .i64 v,.slice A3 l3 c3] 95)
  have ho4:=HO3.out.alloc (.cells #[.int .i64 k,.int .i64 bp,.int .i64 v,.slice A3 l3 c3] 95)
  obtain ⟨w4,hw4⟩:∃ w4,w3.alloc (.cells #[.int .i64 k,.int .i64 bp,.int .i64 v,.slice A3 l3 c3] 95) = w4:=⟨_,rfl⟩
  rw [hw4] at hx4 ho4
  rw [hw4]
  have HXC:=lH hx4
  have HOC:=lH (HO0.out.trans ho4)
  have HRC:=lH (HR0.out.only ho4 HLT.out.2.2)
  clear hx4 ho4 hw4
  go_wp2_with (first
   | (go_at_call 22;refine (HNO.out _).mono ?_;(rintro r w6 ⟨rfl,hbl⟩);have HRF:=lH (HRC.out.low hbl);have HXF:=lH (HXC.out.low hbl);have HOF:=lH (HOC.out.trans (Only.of_below hbl g));obtain ⟨r0,r1,r2,r3,r4,r5⟩:=zero_cells HRF.out;clear hbl))
  have HF:=lH (HRF.out.fin HWB.out (ob_nul _ _) HXF.out HOF.out HLT.out.1 HLT.out.2.1 HLT.out.2.2)
  refine bodyPost_ret (results_cell_row_tmp rfl _ _ w.heap.size 27 _ (0,0) _ rfl HF.out.row Tryz.underlying27 rfl (by kernel_rfl) _ rfl) rfl ?_
  exact ⟨_,_,_,_,_,rfl,HF.out.ob,HF.out.px,HF.out.on⟩
end
section
open Go.RowKit
def numT (zs:List Int) (p:Nat) (lo hi:Int):Int × Int × Nat :=
 if (tokT zs p).e ≠ 0 then (0,(tokT zs p).e,(tokT zs p).q)
 else if (tokT zs p).k = 1 ∧ lo ≤ (tokT zs p).v ∧ (tokT zs p).v ≤ hi then ((tokT zs p).v,0,(tokT zs p).q)
 else (0,wrgZ (tokT zs p).k,blkP zs p)
def wrdT (zs:List Int) (p:Nat) (s:ByteArray):Int × Nat :=
 if (tokT zs p).e ≠ 0 then ((tokT zs p).e,(tokT zs p).q)
 else if (tokT zs p).k = 9 ∧ strOfNums (tokT zs p).b = s then (0,(tokT zs p).q)
 else (wrgZ (tokT zs p).k,blkP zs p)
set_option maxHeartbeats 4000000 in
theorem numberC {w:World} {m h g n c d p:Nat} {A:Option Addr} {zs:List Int} (x:PX w m h g A n c d zs p) (lo hi:Int) :
  Calls Tryz.prog 45 #[.pointer (some ⟨m,0,none⟩),.int .i64 lo,.int .i64 hi] w fun r w'=>r = .returned (.tuple #[.int .i64 (numT zs p lo hi).1,.int .i64 (numT zs p lo hi).2.1]) ∧ PX w' m h g A n c d zs (numT zs p lo hi).2.2 ∧ Only g w w':=by
 unfold numT
 have htk:=ptkC x
 have hbn:blkP zs p ≤ n:=by have:=(blkP_le zs p x.pz).2;rw [x.len] at this;exact this
 have k0:=x.k0
 obtain ⟨T,hT⟩:∃ T,tokT zs p = T:=⟨_,rfl⟩
 obtain ⟨bp,hbp⟩:∃ bp,blkP zs p = bp:=⟨_,rfl⟩
 rw [hT] at htk ⊢
 rw [hbp] at htk hbn ⊢
 obtain ⟨e,k,v,b,q2⟩:=T
 dsimp only at htk ⊢
 have HTK:=lH htk
 have HWR:=lH (fun W k A' l c' (hW:PX W m h g A n c d zs q2)=>wrongC hW k v bp A' l c' hbn)
 clear htk hbn hT hbp x
 by_cases he:e = 0
 ·subst he
  rw [if_neg (fun h=>h rfl)]
  by_cases hk:k = 1
  ·subst hk
   by_cases h1:lo ≤ v
   ·have g1:decide (v < lo) = false:=decide_eq_false (by omega)
    by_cases h2:v ≤ hi
    ·rw [if_pos ⟨rfl,h1,h2⟩]
     have g2:decide (v > hi) = false:=decide_eq_false (by omega)
     have g3:decide (hi < v) = false:=decide_eq_false (by omega)
     clear HWR
     go_enter Tryz.func45,Tryz.ntmps45
     go_upto_region 2 with (first
      | (go_at_call 50;refine HTK.out.mono ?_;(rintro r w3 ⟨A3,l3,c3,rfl,hx3,ho3,hy3,hf3⟩);have HX3:=lH hx3;have HO3:=lH ho3;have HY3:=lH hy3;clear hx3 ho3 hy3 hf3))
     have hn4:=Bx.new w3 95 (.int .i64 1) (.int .i64 bp) (.int .i64 v) (.slice A3 l3 c3)
     have hx4:=HX3.out.alloc (.cells #[.int .i64 1,.int .i64 bp,.int .i64 v,.slice A3 l3 c3] 95)
     have ho4:=HO3.out.alloc (.cells #[.int .i64 1,.int .i64 bp,.int .i64 v,.slice A3 l3 c3] 95)
     have hy4:=HY3.out.alloc (Nat.le_refl _) (.cells #[.int .i64 1,.int .i64 bp,.int .i64 v,.slice A3 l3 c3] 95)
     obtain ⟨w4,hw4⟩:∃ w4,w3.alloc (.cells #[.int .i64 1,.int .i64 bp,.int .i64 v,.slice A3 l3 c3] 95) = w4:=⟨_,rfl⟩
     have hs4:w3.heap.size ≤ w4.heap.size:=by rw [← hw4];simp
     rw [hw4] at hn4 hx4 ho4 hy4
     rw [hw4]
     have t0:=hn4.c0
     have t1:=hn4.c1
     have t2:=hn4.c2
     have t3:=hn4.c3
     have HX4:=lH hx4
     have HO4:=lH ho4
     have HY4:=lH (hy4.more hs4)
     clear hn4 hx4 ho4 hy4 hw4 hs4
     go_wp2_with fail
     go_ret2
     exact ⟨rfl,HX4.out,HO4.out⟩
    ·rw [if_neg (fun h=>h2 h.2.2)]
     have g2:decide (v > hi) = true:=decide_eq_true (by omega)
     have g3:decide (hi < v) = true:=decide_eq_true (by omega)
     go_enter Tryz.func45,Tryz.ntmps45
     go_upto_region 2 with (first
      | (go_at_call 50;refine HTK.out.mono ?_;(rintro r w3 ⟨A3,l3,c3,rfl,hx3,ho3,hy3,hf3⟩);have HX3:=lH hx3;have HO3:=lH ho3;have HY3:=lH hy3;clear hx3 ho3 hy3 hf3))
     have hn4:=Bx.new w3 95 (.int .i64 1) (.int .i64 bp) (.int .i64 v) (.slice A3 l3 c3)
     have hx4:=HX3.out.alloc (.cells #[.int .i64 1,.int .i64 bp,.int .i64 v,.slice A3 l3 c3] 95)
     have ho4:=HO3.out.alloc (.cells #[.int .i64 1,.int .i64 bp,.int .i64 v,.slice A3 l3 c3] 95)
     have hy4:=HY3.out.alloc (Nat.le_refl _) (.cells #[.int .i64 1,.int .i64 bp,.int .i64 v,.slice A3 l3 c3] 95)
     obtain ⟨w4,hw4⟩:∃ w4,w3.alloc (.cells #[.int .i64 1,.int .i64 bp,.int .i64 v,.slice A3 l3 c3] 95) = w4:=⟨_,rfl⟩
     have hs4:w3.heap.size ≤ w4.heap.size:=by rw [← hw4];simp
     rw [hw4] at hn4 hx4 ho4 hy4
     rw [hw4]
     have t0:=hn4.c0
     have t1:=hn4.c1
     have t2:=hn4.c2
     have t3:=hn4.c3
     have HX4:=lH hx4
     have HO4:=lH ho4
     have HY4:=lH (hy4.more hs4)
     clear hn4 hx4 ho4 hy4 hw4 hs4
     go_wp2_with (first
      | (go_at_call 51;refine (HWR.out _ _ _ _ _ HX4.out).mono ?_;(rintro r w6 ⟨rfl,hx6,ho6⟩);have HX6:=lH hx6;have HO6:=lH (HO4.out.trans ho6);clear hx6 ho6))
     go_ret2
     exact ⟨rfl,HX6.out,HO6.out⟩
   ·rw [if_neg (fun h=>h1 h.2.1)]
    have g1:decide (v < lo) = true:=decide_eq_true (by omega)
    go_enter Tryz.func45,Tryz.ntmps45
    go_upto_region 2 with (first
     | (go_at_call 50;refine HTK.out.mono ?_;(rintro r w3 ⟨A3,l3,c3,rfl,hx3,ho3,hy3,hf3⟩);have HX3:=lH hx3;have HO3:=lH ho3;have HY3:=lH hy3;clear hx3 ho3 hy3 hf3))
    have hn4:=Bx.new w3 95 (.int .i64 1) (.int .i64 bp) (.int .i64 v) (.slice A3 l3 c3)
    have hx4:=HX3.out.alloc (.cells #[.int .i64 1,.int .i64 bp,.int .i64 v,.slice A3 l3 c3] 95)
    have ho4:=HO3.out.alloc (.cells #[.int .i64 1,.int .i64 bp,.int .i64 v,.slice A3 l3 c3] 95)
    have hy4:=HY3.out.alloc (Nat.le_refl _) (.cells #[.int .i64 1,.int .i64 bp,.int .i64 v,.slice A3 l3 c3] 95)
    obtain ⟨w4,hw4⟩:∃ w4,w3.alloc (.cells #[.int .i64 1,.int .i64 bp,.int .i64 v,.slice A3 l3 c3] 95) = w4:=⟨_,rfl⟩
    have hs4:w3.heap.size ≤ w4.heap.size:=by rw [← hw4];simp
    rw [hw4] at hn4 hx4 ho4 hy4
    rw [hw4]
    have t0:=hn4.c0
    have t1:=hn4.c1
    have t2:=hn4.c2
    have t3:=hn4.c3
    have HX4:=lH hx4
    have HO4:=lH ho4
    have HY4:=lH (hy4.more hs4)
    clear hn4 hx4 ho4 hy4 hw4 hs4
    go_wp2_with (first
     | (go_at_call 51;refine (HWR.out _ _ _ _ _ HX4.out).mono ?_;(rintro r w6 ⟨rfl,hx6,ho6⟩);have HX6:=lH hx6;have HO6:=lH (HO4.out.trans ho6);clear hx6 ho6))
    go_ret2
    exact ⟨rfl,HX6.out,HO6.out⟩
  ·rw [if_neg (fun h=>hk h.1)]
   have hkb:(k == 1) = false:=beq_eq_false_iff_ne.2 hk
   have hkn:(k != 1) = true:=by rw [bne,hkb];rfl
   clear hk
   go_enter Tryz.func45,Tryz.ntmps45
   go_upto_region 2 with (first
    | (go_at_call 50;refine HTK.out.mono ?_;(rintro r w3 ⟨A3,l3,c3,rfl,hx3,ho3,hy3,hf3⟩);have HX3:=lH hx3;have HO3:=lH ho3;have HY3:=lH hy3;clear hx3 ho3 hy3 hf3))
   have hn4:=Bx.new w3 95 (.int .i64 k) (.int .i64 bp) (.int .i64 v) (.slice A3 l3 c3)
   have hx4:=HX3.out.alloc (.cells #[.int .i64 k,.int .i64 bp,.int .i64 v,.slice A3 l3 c3] 95)
   have ho4:=HO3.out.alloc (.cells #[.int .i64 k,.int .i64 bp,.int .i64 v,.slice A3 l3 c3] 95)
   have hy4:=HY3.out.alloc (Nat.le_refl _) (.cells #[.int .i64 k,.int .i64 bp,.int .i64 v,.slice A3 l3 c3] 95)
   obtain ⟨w4,hw4⟩:∃ w4,w3.alloc (.cells #[.int .i64 k,.int .i64 bp,.int .i64 v,.slice A3 l3 c3] 95) = w4:=⟨_,rfl⟩
   have hs4:w3.heap.size ≤ w4.heap.size:=by rw [← hw4];simp
   rw [hw4] at hn4 hx4 ho4 hy4
   rw [hw4]
   have t0:=hn4.c0
   have t1:=hn4.c1
   have t2:=hn4.c2
   have t3:=hn4.c3
   have HX4:=lH hx4
   have HO4:=lH ho4
   have HY4:=lH (hy4.more hs4)
   clear hn4 hx4 ho4 hy4 hw4 hs4
   go_wp2_with (first
    | (go_at_call 51;refine (HWR.out _ _ _ _ _ HX4.out).mono ?_;(rintro r w6 ⟨rfl,hx6,ho6⟩);have HX6:=lH hx6;have HO6:=lH (HO4.out.trans ho6);clear hx6 ho6))
   go_ret2
   exact ⟨rfl,HX6.out,HO6.out⟩
 ·rw [if_pos he]
  have heb:(e == 0) = false:=beq_eq_false_iff_ne.2 he
  clear he HWR
  go_enter Tryz.func45,Tryz.ntmps45
  go_upto_region 2 with (first
   | (go_at_call 50;refine HTK.out.mono ?_;(rintro r w3 ⟨A3,l3,c3,rfl,hx3,ho3,hy3,hf3⟩);have HX3:=lH hx3;have HO3:=lH ho3;have HY3:=lH hy3;clear hx3 ho3 hy3 hf3))
  have hn4:=Bx.new w3 95 (.int .i64 k) (.int .i64 bp) (.int .i64 v) (.slice A3 l3 c3)
  have hx4:=HX3.out.alloc (.cells #[.int .i64 k,.int .i64 bp,.int .i64 v,.slice A3 l3 c3] 95)
  have ho4:=HO3.out.alloc (.cells #[.int .i64 k,.int .i64 bp,.int .i64 v,.slice A3 l3 c3] 95)
  have hy4:=HY3.out.alloc (Nat.le_refl _) (.cells #[.int .i64 k,.int .i64 bp,.int .i64 v,.slice A3 l3 c3] 95)
  obtain ⟨w4,hw4⟩:∃ w4,w3.alloc (.cells #[.int .i64 k,.int .i64 bp,.int .i64 v,.slice A3 l3 c3] 95) = w4:=⟨_,rfl⟩
  have hs4:w3.heap.size ≤ w4.heap.size:=by rw [← hw4];simp
  rw [hw4] at hn4 hx4 ho4 hy4
  rw [hw4]
  have t0:=hn4.c0
  have t1:=hn4.c1
  have t2:=hn4.c2
  have t3:=hn4.c3
  have HX4:=lH hx4
  have HO4:=lH ho4
  have HY4:=lH (hy4.more hs4)
  clear hn4 hx4 ho4 hy4 hw4 hs4
  go_wp2_with fail
  go_ret2
  exact ⟨rfl,HX4.out,HO4.out⟩
set_option maxHeartbeats 4000000 in
theorem wordC {w:World} {m h g n c d p:Nat} {A:Option Addr} {zs:List Int} (x:PX w m h g A n c d zs p) (s:ByteArray) :
  Calls Tryz.prog 29 #[.pointer (some ⟨m,0,none⟩),.string s] w fun r w'=>r = .returned (.int .i64 (wrdT zs p s).1) ∧ PX w' m h g A n c d zs (wrdT zs p s).2 ∧ Only g w w':=by
 unfold wrdT
 have htk:=ptkC x
 have hbn:blkP zs p ≤ n:=by have:=(blkP_le zs p x.pz).2;rw [x.len] at this;exact this
 have k0:=x.k0
 obtain ⟨T,hT⟩:∃ T,tokT zs p = T:=⟨_,rfl⟩
 obtain ⟨bp,hbp⟩:∃ bp,blkP zs p = bp:=⟨_,rfl⟩
 rw [hT] at htk ⊢
 rw [hbp] at htk hbn ⊢
 obtain ⟨e,k,v,b,q2⟩:=T
 dsimp only at htk ⊢
 have HTK:=lH htk
 have HWR:=lH (fun W k A' l c' (hW:PX W m h g A n c d zs q2)=>wrongC hW k v bp A' l c' hbn)
 clear htk hbn hT hbp x
 by_cases he:e = 0
 ·subst he
  rw [if_neg (fun h=>h rfl)]
  by_cases hk:k = 9
  ·subst hk
   obtain ⟨t,ht⟩:∃ t,strOfNums b = t:=⟨_,rfl⟩
   rw [ht]
   have HT:=lH ht
   clear ht
   by_cases h1:t = s
   ·subst h1
    rw [if_pos ⟨rfl,rfl⟩]
    clear HWR
    go_enter Tryz.func29,Tryz.ntmps29
    go_upto_region 2 with (first
     | (go_at_call 50;refine HTK.out.mono ?_;(rintro r w3 ⟨A3,l3,c3,rfl,hx3,ho3,hy3,hf3⟩);have HX3:=lH hx3;have HO3:=lH ho3;have HY3:=lH hy3;clear hx3 ho3 hy3 hf3))
    have hn4:=Bx.new w3 95 (.int .i64 9) (.int .i64 bp) (.int .i64 v) (.slice A3 l3 c3)
    have hx4:=HX3.out.alloc (.cells #[.int .i64 9,.int .i64 bp,.int .i64 v,.slice A3 l3 c3] 95)
    have ho4:=HO3.out.alloc (.cells #[.int .i64 9,.int .i64 bp,.int .i64 v,.slice A3 l3 c3] 95)
    have hy4:=HY3.out.alloc (Nat.le_refl _) (.cells #[.int .i64 9,.int .i64 bp,.int .i64 v,.slice A3 l3 c3] 95)
    obtain ⟨w4,hw4⟩:∃ w4,w3.alloc (.cells #[.int .i64 9,.int .i64 bp,.int .i64 v,.slice A3 l3 c3] 95) = w4:=⟨_,rfl⟩
    have hs4:w3.heap.size ≤ w4.heap.size:=by rw [← hw4];simp
    rw [hw4] at hn4 hx4 ho4 hy4
    rw [hw4]
    have t0:=hn4.c0
    have t1:=hn4.c1
    have t2:=hn4.c2
    have t3:=hn4.c3
    have HX4:=lH hx4
    have HO4:=lH ho4
    have HY4:=lH (hy4.more hs4)
    clear hn4 hx4 ho4 hy4 hw4 hs4
    have hcv:=conv_str HY4.out t HT.out
    go_wp2_with fail
    go_ret
    exact ⟨rfl,HX4.out,HO4.out⟩
   ·rw [if_neg (fun h=>h1 h.2)]
    have hne:(t.toList == s.toList) = false:=str_ne h1
    clear h1
    go_enter Tryz.func29,Tryz.ntmps29
    go_upto_region 2 with (first
     | (go_at_call 50;refine HTK.out.mono ?_;(rintro r w3 ⟨A3,l3,c3,rfl,hx3,ho3,hy3,hf3⟩);have HX3:=lH hx3;have HO3:=lH ho3;have HY3:=lH hy3;clear hx3 ho3 hy3 hf3))
    have hn4:=Bx.new w3 95 (.int .i64 9) (.int .i64 bp) (.int .i64 v) (.slice A3 l3 c3)
    have hx4:=HX3.out.alloc (.cells #[.int .i64 9,.int .i64 bp,.int .i64 v,.slice A3 l3 c3] 95)
    have ho4:=HO3.out.alloc (.cells #[.int .i64 9,.int .i64 bp,.int .i64 v,.slice A3 l3 c3] 95)
    have hy4:=HY3.out.alloc (Nat.le_refl _) (.cells #[.int .i64 9,.int .i64 bp,.int .i64 v,.slice A3 l3 c3] 95)
    obtain ⟨w4,hw4⟩:∃ w4,w3.alloc (.cells #[.int .i64 9,.int .i64 bp,.int .i64 v,.slice A3 l3 c3] 95) = w4:=⟨_,rfl⟩
    have hs4:w3.heap.size ≤ w4.heap.size:=by rw [← hw4];simp
    rw [hw4] at hn4 hx4 ho4 hy4
    rw [hw4]
    have t0:=hn4.c0
    have t1:=hn4.c1
    have t2:=hn4.c2
    have t3:=hn4.c3
    have HX4:=lH hx4
    have HO4:=lH ho4
    have HY4:=lH (hy4.more hs4)
    clear hn4 hx4 ho4 hy4 hw4 hs4
    have hcv:=conv_str HY4.out t HT.out
    go_wp2_with (first
     | (go_at_call 51;refine (HWR.out _ _ _ _ _ HX4.out).mono ?_;(rintro r w6 ⟨rfl,hx6,ho6⟩);have HX6:=lH hx6;have HO6:=lH (HO4.out.trans ho6);clear hx6 ho6))
    go_ret
    exact ⟨rfl,HX6.out,HO6.out⟩
  ·rw [if_neg (fun h=>hk h.1)]
   have hkb:(k == 9) = false:=beq_eq_false_iff_ne.2 hk
   have hkn:(k != 9) = true:=by rw [bne,hkb];rfl
   clear hk
   go_enter Tryz.func29,Tryz.ntmps29
   go_upto_region 2 with (first
    | (go_at_call 50;refine HTK.out.mono ?_;(rintro r w3 ⟨A3,l3,c3,rfl,hx3,ho3,hy3,hf3⟩);have HX3:=lH hx3;have HO3:=lH ho3;have HY3:=lH hy3;clear hx3 ho3 hy3 hf3))
   have hn4:=Bx.new w3 95 (.int .i64 k) (.int .i64 bp) (.int .i64 v) (.slice A3 l3 c3)
   have hx4:=HX3.out.alloc (.cells #[.int .i64 k,.int .i64 bp,.int .i64 v,.slice A3 l3 c3] 95)
   have ho4:=HO3.out.alloc (.cells #[.int .i64 k,.int .i64 bp,.int .i64 v,.slice A3 l3 c3] 95)
   have hy4:=HY3.out.alloc (Nat.le_refl _) (.cells #[.int .i64 k,.int .i64 bp,.int .i64 v,.slice A3 l3 c3] 95)
   obtain ⟨w4,hw4⟩:∃ w4,w3.alloc (.cells #[.int .i64 k,.int .i64 bp,.int .i64 v,.slice A3 l3 c3] 95) = w4:=⟨_,rfl⟩
   have hs4:w3.heap.size ≤ w4.heap.size:=by rw [← hw4];simp
   rw [hw4] at hn4 hx4 ho4 hy4
   rw [hw4]
   have t0:=hn4.c0
   have t1:=hn4.c1
   have t2:=hn4.c2
   have t3:=hn4.c3
   have HX4:=lH hx4
   have HO4:=lH ho4
   have HY4:=lH (hy4.more hs4)
   clear hn4 hx4 ho4 hy4 hw4 hs4
   go_wp2_with (first
    | (go_at_call 51;refine (HWR.out _ _ _ _ _ HX4.out).mono ?_;(rintro r w6 ⟨rfl,hx6,ho6⟩);have HX6:=lH hx6;have HO6:=lH (HO4.out.trans ho6);clear hx6 ho6))
   go_ret
   exact ⟨rfl,HX6.out,HO6.out⟩
 ·rw [if_pos he]
  have heb:(e == 0) = false:=beq_eq_false_iff_ne.2 he
  clear he HWR
  go_enter Tryz.func29,Tryz.ntmps29
  go_upto_region 2 with (first
   | (go_at_call 50;refine HTK.out.mono ?_;(rintro r w3 ⟨A3,l3,c3,rfl,hx3,ho3,hy3,hf3⟩);have HX3:=lH hx3;have HO3:=lH ho3;have HY3:=lH hy3;clear hx3 ho3 hy3 hf3))
  have hn4:=Bx.new w3 95 (.int .i64 k) (.int .i64 bp) (.int .i64 v) (.slice A3 l3 c3)
  have hx4:=HX3.out.alloc (.cells #[.int .i64 k,.int .i64 bp,.int .i64 v,.slice A3 l3 c3] 95)
  have ho4:=HO3.out.alloc (.cells #[.int .i64 k,.int .i64 bp,.int .i64 v,.slice A3 l3 c3] 95)
  have hy4:=HY3.out.alloc (Nat.le_refl _) (.cells #[.int .i64 k,.int .i64 bp,.int .i64 v,.slice A3 l3 c3] 95)
  obtain ⟨w4,hw4⟩:∃ w4,w3.alloc (.cells #[.int .i64 k,.int .i64 bp,.int .i64 v,.slice A3 l3 c3] 95) = w4:=⟨_,rfl⟩
  have hs4:w3.heap.size ≤ w4.heap.size:=by rw [← hw4];simp
  rw [hw4] at hn4 hx4 ho4 hy4
  rw [hw4]
  have t0:=hn4.c0
  have t1:=hn4.c1
  have t2:=hn4.c2
  have t3:=hn4.c3
  have HX4:=lH hx4
  have HO4:=lH ho4
  have HY4:=lH (hy4.more hs4)
  clear hn4 hx4 ho4 hy4 hw4 hs4
  go_wp2_with fail
  go_ret
  exact ⟨rfl,HX4.out,HO4.out⟩
end
section
open Go.RowKit
def strObj:ByteArray:=⟨#[111,98,106]⟩
def headT (zs:List Int) (p:Nat):Int × Int × Nat :=
 if (numT zs p 1 8388607).2.1 ≠ 0 then (0,(numT zs p 1 8388607).2.1,(numT zs p 1 8388607).2.2)
 else if (numT zs (numT zs p 1 8388607).2.2 0 0).2.1 ≠ 0 then (0,(numT zs (numT zs p 1 8388607).2.2 0 0).2.1,(numT zs (numT zs p 1 8388607).2.2 0 0).2.2)
 else if (wrdT zs (numT zs (numT zs p 1 8388607).2.2 0 0).2.2 strObj).1 ≠ 0 then (0,(wrdT zs (numT zs (numT zs p 1 8388607).2.2 0 0).2.2 strObj).1,(wrdT zs (numT zs (numT zs p 1 8388607).2.2 0 0).2.2 strObj).2)
 else ((numT zs p 1 8388607).1,0,(wrdT zs (numT zs (numT zs p 1 8388607).2.2 0 0).2.2 strObj).2)
set_option maxHeartbeats 2000000 in
theorem headC {w:World} {m h g n c d p:Nat} {A:Option Addr} {zs:List Int} (x:PX w m h g A n c d zs p) :
  Calls Tryz.prog 27 #[.pointer (some ⟨m,0,none⟩)] w fun r w'=>r = .returned (.tuple #[.int .i64 (headT zs p).1,.int .i64 (headT zs p).2.1]) ∧ PX w' m h g A n c d zs (headT zs p).2.2 ∧ Only g w w':=by
 unfold headT
 have HN1:=lH (numberC x 1 8388607)
 obtain ⟨R1,hR1⟩:∃ R1,numT zs p 1 8388607 = R1:=⟨_,rfl⟩
 rw [hR1] at HN1 ⊢
 obtain ⟨V1,E1,Q1⟩:=R1
 dsimp only at HN1 ⊢
 have HN2:=lH (fun W (hW:PX W m h g A n c d zs Q1)=>numberC hW 0 0)
 obtain ⟨R2,hR2⟩:∃ R2,numT zs Q1 0 0 = R2:=⟨_,rfl⟩
 simp only [hR2] at HN2 ⊢
 obtain ⟨V2,E2,Q2⟩:=R2
 dsimp only at HN2 ⊢
 have HN3:=lH (fun W (hW:PX W m h g A n c d zs Q2)=>wordC hW strObj)
 obtain ⟨R3,hR3⟩:∃ R3,wrdT zs Q2 strObj = R3:=⟨_,rfl⟩
 simp only [hR3] at HN3 ⊢
 obtain ⟨E3,Q3⟩:=R3
 dsimp only at HN3 ⊢
 clear hR1 hR2 hR3 x
 by_cases h1:E1 = 0
 ·subst h1
  rw [if_neg (fun h=>h rfl)]
  by_cases h2:E2 = 0
  ·subst h2
   rw [if_neg (fun h=>h rfl)]
   by_cases h3:E3 = 0
   ·subst h3
    rw [if_neg (fun h=>h rfl)]
    go_enter Tryz.func27,Tryz.ntmps27
    go_upto_region 4 with (first
     | (go_at_call 45;refine HN1.out.mono ?_;(rintro r w1 ⟨rfl,hx1,ho1⟩);have HX1:=lH hx1;have HO1:=lH ho1;clear hx1 ho1))
    go_upto_region 7 with (first
     | (go_at_call 45;refine (HN2.out _ HX1.out).mono ?_;(rintro r w2 ⟨rfl,hx2,ho2⟩);have HX2:=lH hx2;have HO2:=lH (HO1.out.trans ho2);clear hx2 ho2))
    go_wp2_with (first
     | (go_at_call 29;refine (HN3.out _ HX2.out).mono ?_;(rintro r w3 ⟨rfl,hx3,ho3⟩);have HX3:=lH hx3;have HO3:=lH (HO2.out.trans ho3);clear hx3 ho3))
    go_ret2
    exact ⟨rfl,HX3.out,HO3.out⟩
   ·rw [if_pos h3]
    have h3b:(E3 == 0) = false:=beq_eq_false_iff_ne.2 h3
    clear h3
    go_enter Tryz.func27,Tryz.ntmps27
    go_upto_region 4 with (first
     | (go_at_call 45;refine HN1.out.mono ?_;(rintro r w1 ⟨rfl,hx1,ho1⟩);have HX1:=lH hx1;have HO1:=lH ho1;clear hx1 ho1))
    go_upto_region 7 with (first
     | (go_at_call 45;refine (HN2.out _ HX1.out).mono ?_;(rintro r w2 ⟨rfl,hx2,ho2⟩);have HX2:=lH hx2;have HO2:=lH (HO1.out.trans ho2);clear hx2 ho2))
    go_wp2_with (first
     | (go_at_call 29;refine (HN3.out _ HX2.out).mono ?_;(rintro r w3 ⟨rfl,hx3,ho3⟩);have HX3:=lH hx3;have HO3:=lH (HO2.out.trans ho3);clear hx3 ho3))
    go_ret2
    exact ⟨rfl,HX3.out,HO3.out⟩
  ·rw [if_pos h2]
   have h2b:(E2 == 0) = false:=beq_eq_false_iff_ne.2 h2
   clear h2
   go_enter Tryz.func27,Tryz.ntmps27
   go_upto_region 4 with (first
    | (go_at_call 45;refine HN1.out.mono ?_;(rintro r w1 ⟨rfl,hx1,ho1⟩);have HX1:=lH hx1;have HO1:=lH ho1;clear hx1 ho1))
   go_wp2_with (first
    | (go_at_call 45;refine (HN2.out _ HX1.out).mono ?_;(rintro r w2 ⟨rfl,hx2,ho2⟩);have HX2:=lH hx2;have HO2:=lH (HO1.out.trans ho2);clear hx2 ho2))
   go_ret2
   exact ⟨rfl,HX2.out,HO2.out⟩
 ·rw [if_pos h1]
  have h1b:(E1 == 0) = false:=beq_eq_false_iff_ne.2 h1
  clear h1
  go_enter Tryz.func27,Tryz.ntmps27
  go_wp2_with (first
   | (go_at_call 45;refine HN1.out.mono ?_;(rintro r w1 ⟨rfl,hx1,ho1⟩);have HX1:=lH hx1;have HO1:=lH ho1;clear hx1 ho1))
  go_ret2
  exact ⟨rfl,HX1.out,HO1.out⟩
def strCL:ByteArray:=⟨#[13,10]⟩
def strLF:ByteArray:=⟨#[10]⟩
def lineT (zs:List Int) (p:Nat):Int × Nat :=
 if stB zs p strCL = true then (0,p + 2) else if stB zs p strLF = true then (0,p + 1) else if zs.length ≤ p then (2,p) else (4,p)
theorem lineC {w:World} {m h g n c d p:Nat} {A:Option Addr} {zs:List Int} (x:PX w m h g A n c d zs p) :
  Calls Tryz.prog 67 #[.pointer (some ⟨m,0,none⟩)] w fun r w'=>r = .returned (.int .i64 (lineT zs p).1) ∧ PX w' m h g A n c d zs (lineT zs p).2 ∧ Only g w w':=by
 unfold lineT
 have HX:=lH x
 have hn:n ≤ 1000000:=by have:=x.sm;omega
 have hpl:=x.lx.pl
 have k0:=x.k0
 have j0:=x.lx.k0
 by_cases h1:stB zs p strCL = true
 ·rw [if_pos h1]
  have HM1:=lH (lxm_yes h g n c p g A zs strCL w x.lx x.bt hn 2 rfl h1)
  clear x h1 hpl
  go_enter Tryz.func67,Tryz.ntmps67
  go_wp2_with (first
   | (go_at_call 65;refine HM1.out.mono ?_;(rintro r w1 ⟨rfl,hl1,ho1⟩);have HX1:=lH (HX.out.moved hl1 ho1);have HO1:=lH ho1;clear hl1 ho1))
  go_ret
  exact ⟨rfl,HX1.out,HO1.out⟩
 rw [if_neg h1]
 have h1f:stB zs p strCL = false:=by simpa using h1
 have HM1:=lH (lxm_no h g n c p g A zs strCL w x.lx x.bt hn (by decide) h1f)
 by_cases h2:stB zs p strLF = true
 ·rw [if_pos h2]
  have HM2:=lH (fun k=>lxm_yes h g n c p g A zs strLF (w.drewN k) (x.drewN k).lx (x.drewN k).bt hn 1 rfl h2)
  clear x h1 h1f h2 hpl
  go_enter Tryz.func67,Tryz.ntmps67
  go_upto_region 2 with (first
   | (go_at_call 65;refine HM1.out.mono ?_;(rintro r w1 ⟨rfl,q,rfl⟩)))
  go_wp2_with (first
   | (go_at_call 65;refine (HM2.out _).mono ?_;(rintro r w2 ⟨rfl,hl2,ho2⟩);have HX2:=lH ((HX.out.drewN _).moved hl2 ho2);have HO2:=lH (((Only.refl g w).drewN _).trans ho2);clear hl2 ho2))
  go_ret
  exact ⟨rfl,HX2.out,HO2.out⟩
 rw [if_neg h2]
 have h2f:stB zs p strLF = false:=by simpa using h2
 have HM2:=lH (fun k=>lxm_no h g n c p g A zs strLF (w.drewN k) (x.drewN k).lx (x.drewN k).bt hn (by decide) h2f)
 have HLF:=lH (fun k=>left_any g n c p A (w.drewN k) (x.drewN k).lx.cu hpl (by omega))
 have hln:=x.len
 by_cases h3:zs.length ≤ p
 ·rw [if_pos h3]
  have e3:((n:Int) - p == 0) = true:=by rw [beq_iff_eq];omega
  clear x h1 h1f h2 h2f h3 hln
  go_enter Tryz.func67,Tryz.ntmps67
  go_upto_region 2 with (first
   | (go_at_call 65;refine HM1.out.mono ?_;(rintro r w1 ⟨rfl,q,rfl⟩)))
  go_upto_region 4 with (first
   | (go_at_call 65;refine (HM2.out _).mono ?_;(rintro r w2 ⟨rfl,q2,rfl⟩)))
  go_wp2_with (first
   | (go_at_call 24;refine (HLF.out _).mono ?_;(rintro r w3 ⟨rfl,rfl⟩)))
  go_ret
  exact ⟨rfl,HX.out.drewN _,(Only.refl g w).drewN _⟩
 ·rw [if_neg h3]
  have e3:((n:Int) - p == 0) = false:=beq_eq_false_iff_ne.2 (by omega)
  clear x h1 h1f h2 h2f h3 hln
  go_enter Tryz.func67,Tryz.ntmps67
  go_upto_region 2 with (first
   | (go_at_call 65;refine HM1.out.mono ?_;(rintro r w1 ⟨rfl,q,rfl⟩)))
  go_upto_region 4 with (first
   | (go_at_call 65;refine (HM2.out _).mono ?_;(rintro r w2 ⟨rfl,q2,rfl⟩)))
  go_wp2_with (first
   | (go_at_call 24;refine (HLF.out _).mono ?_;(rintro r w3 ⟨rfl,rfl⟩)))
  go_ret
  exact ⟨rfl,HX.out.drewN _,(Only.refl g w).drewN _⟩
end
section
open Go.RowKit
theorem box_keep5 {W W':World} {b g:Nat} {cs:Array Value} {T:TypeId} (h:W.heap[b]? = some (.cells cs T (0,0))) (ho:Only g W W') (hg:b ≠ g):W'.heap[b]? = some (.cells cs T (0,0)):=(ho.block b (row_lt _ _ _ h) hg).trans h
def strEnS:ByteArray:=⟨#[101,110,100,115,116,114,101,97,109]⟩
def dataT (zs:List Int) (p:Nat) (k v:Int):Int × List Int × Nat :=
 if (lineT zs p).1 ≠ 0 then ((lineT zs p).1,[],(lineT zs p).2)
 else if k ≠ 2 ∨ v < 0 then (4,[],(lineT zs p).2)
 else if (zs.length:Int) - (lineT zs p).2 < v then (2,[],(lineT zs p).2)
 else if (wrdT zs ((lineT zs p).2 + v.toNat) strEnS).1 ≠ 0 then ((wrdT zs ((lineT zs p).2 + v.toNat) strEnS).1,[],(wrdT zs ((lineT zs p).2 + v.toNat) strEnS).2)
 else (0,(zs.drop (lineT zs p).2).take v.toNat,(wrdT zs ((lineT zs p).2 + v.toNat) strEnS).2)
def DtP (m h g:Nat) (A:Option Addr) (n c d:Nat) (zs:List Int) (w:World) (R:Int × List Int × Nat) (r:Ending) (w':World):Prop :=
 ∃ (A':Option Addr) (l c':Nat),r = .returned (.tuple #[.slice A' l c',.int .i64 R.1]) ∧ Byt w' w'.heap.size A' l c' R.2.1 ∧ From w.heap.size A' l ∧ PX w' m h g A n c d zs R.2.2 ∧ Only g w w'
set_option maxHeartbeats 4000000 in
theorem dataC {w:World} {m h g n c d p:Nat} {A:Option Addr} {zs:List Int} (x:PX w m h g A n c d zs p) (k v:Int) (c2 c3 c4:Value) :
  Calls Tryz.prog 47 #[.pointer (some ⟨m,0,none⟩),.agg #[.int .i64 k,.int .i64 v,c2,c3,c4]] w (DtP m h g A n c d zs w (dataT zs p k v)):=by
 unfold dataT
 have hb1:=(Below.refl w.heap.size w).alloc (Nat.le_refl _) (.cells #[.int .i64 k,.int .i64 v,c2,c3,c4] 27)
 have hn1:=heap_alloc_new w (.cells #[.int .i64 k,.int .i64 v,c2,c3,c4] 27)
 obtain ⟨W1,hW1⟩:∃ W1,w.alloc (.cells #[.int .i64 k,.int .i64 v,c2,c3,c4] 27) = W1:=⟨_,rfl⟩
 rw [hW1] at hb1 hn1
 have hx1:=x.low hb1
 have HLN:=lH (lineC hx1)
 have HZL:=lH x.len
 have HSM:=lH x.sm
 have HGW:=lH x.lx.cu.lt
 have HO1:=lH (Only.of_below hb1 g)
 have HN1:=lH hn1
 have HW1:=lH hW1
 have HS1:=lH hb1.size
 obtain ⟨R1,hR1⟩:∃ R1,lineT zs p = R1:=⟨_,rfl⟩
 rw [hR1] at HLN ⊢
 obtain ⟨E1,L⟩:=R1
 dsimp only at HLN ⊢
 clear hR1 x hx1 hb1 hn1 hW1
 by_cases h1:E1 = 0
 ·subst h1
  rw [if_neg (fun h=>h rfl)]
  by_cases h2:k = 2
  ·subst h2
   by_cases h3:v < 0
   ·rw [if_pos (.inr h3)]
    have g3:decide (v < 0) = true:=decide_eq_true h3
    go_enter Tryz.func47,Tryz.ntmps47
    go_upto_region 1 with fail
    rw [HW1.out]
    go_upto_region 4 with (first
     | (go_at_call 67;refine HLN.out.mono ?_;(rintro r w2 ⟨rfl,hx2,ho2⟩);have HX2:=lH hx2;have HO2:=lH (HO1.out.trans ho2);have HN2:=lH (box_keep5 HN1.out ho2 (Nat.ne_of_gt HGW.out));clear hx2 ho2))
    have q0:=cell_of_row w2 w.heap.size 0 _ _ (0,0) HN2.out
    have q1:=cell_of_row w2 w.heap.size 1 _ _ (0,0) HN2.out
    go_wp2_with fail
    go_ret2
    exact ⟨_,_,_,rfl,Byt.none_ _ _,fun h0=>absurd h0 (by omega),HX2.out,HO2.out⟩
   ·rw [if_neg (fun h=>h.elim (fun h=>h rfl) h3)]
    have g3:decide (v < 0) = false:=decide_eq_false h3
    have HTO:=lH (fun W (hW:PX W m h g A n c d zs L) (h:(n:Int) - L < v)=>take_out g n c L v A W hW.lx.cu hW.lx.pl (.inr h) (by have:=HSM.out;omega))
    by_cases h4:(zs.length:Int) - L < v
    ·rw [if_pos h4]
     have h4n:(n:Int) - L < v:=by rw [← HZL.out];exact h4
     go_enter Tryz.func47,Tryz.ntmps47
     go_upto_region 1 with fail
     rw [HW1.out]
     go_upto_region 4 with (first
      | (go_at_call 67;refine HLN.out.mono ?_;(rintro r w2 ⟨rfl,hx2,ho2⟩);have HX2:=lH hx2;have HO2:=lH (HO1.out.trans ho2);have HN2:=lH (box_keep5 HN1.out ho2 (Nat.ne_of_gt HGW.out));clear hx2 ho2))
     have q0:=cell_of_row w2 w.heap.size 0 _ _ (0,0) HN2.out
     have q1:=cell_of_row w2 w.heap.size 1 _ _ (0,0) HN2.out
     have k2:=HX2.out.k0
     have j2:=HX2.out.lx.k0
     have hst:=And.intro k2 (And.intro j2 q1)
     go_upto_region 6 with fail
     refine wp_region_heldR (fun W=>W.cell? ⟨m,0,none⟩ = some (.pointer (some ⟨h,0,none⟩)) ∧ W.cell? ⟨h,0,none⟩ = some (.pointer (some ⟨g,0,none⟩)) ∧ W.cell? ⟨w.heap.size,1,none⟩ = some (.int .i64 v)) 1000 (by kernel_rfl) ⟨k2,j2,q1⟩ (fun hHeld=>?_)
     refine tkQ 0 ?_
     try simp only [Act.put,aS2,aS0,aS1]
     refine tkQ 1 ?_
     try simp only [Act.put,aS2,aS0,aS1]
     refine tkQ 2 ?_
     try simp only [Act.put,aS2,aS0,aS1]
     refine tkQ 3 ?_
     try simp only [Act.put,aS2,aS0,aS1]
     refine tkQ 4 ?_
     try simp only [Act.put,aS2,aS0,aS1]
     refine tkQ 5 ?_
     try simp only [Act.put,aS2,aS0,aS1]
     refine tkQ 6 ?_
     try simp only [Act.put,aS2,aS0,aS1]
     refine tkQ 7 ?_
     try simp only [Act.put,aS2,aS0,aS1]
     refine tkQ 8 ?_
     try simp only [Act.put,aS2,aS0,aS1]
     refine wpAnyR_step 9 rfl (by kernel_rfl) (fun K hK=>?_)
     go_simp
     go_at_call 68
     refine (HTO.out _ (HX2.out.drewN 1) h4n).mono ?_
     rintro r w3 ⟨rfl,rfl⟩
     go_wp2_with fail
     refine hK.out _ _ hst (fun hHeld=>?_)
     clear hK K
     try simp only [Act.put,aS2,aS0,aS1]
     refine tkQ 10 ?_
     try simp only [Act.put,aS2,aS0,aS1]
     refine tkQ 11 ?_
     try simp only [Act.put,aS2,aS0,aS1]
     refine tkQ 12 ?_
     try simp only [Act.put,aS2,aS0,aS1]
     refine tkQ 13 ?_
     try simp only [Act.put,aS2,aS0,aS1]
     refine tkQ 14 ?_
     try simp only [Act.put,aS2,aS0,aS1]
     refine wpAnyR_done (by kernel_rfl) ?_
     refine NoPanic.normal ?_
     go_wp2_with fail
     go_ret2
     exact ⟨_,_,_,rfl,Byt.none_ _ _,fun h0=>absurd h0 (by omega),HX2.out.drewN 1,HO2.out.drewN 1⟩
    ·rw [if_neg h4]
     obtain ⟨V,rfl⟩:∃ V:Nat,v = (V:Int):=⟨v.toNat,by omega⟩
     rw [Int.toNat_natCast]
     have hvl:L + V ≤ n:=by have:=HZL.out;omega
     have HVL:=lH hvl
     have HTI:=lH (fun W (hW:PX W m h g A n c d zs L)=>take_in g n c L V g A zs W hW.lx.cu hW.bt hvl (by have:=HSM.out;omega) (Nat.le_refl _))
     have HWD:=lH (fun W (hW:PX W m h g A n c d zs (L + V))=>wordC hW strEnS)
     obtain ⟨R3,hR3⟩:∃ R3,wrdT zs (L + V) strEnS = R3:=⟨_,rfl⟩
     simp only [hR3] at HWD ⊢
     obtain ⟨E3,Q3⟩:=R3
     dsimp only at HWD ⊢
     clear hR3 HTO h3 h4
     obtain ⟨Z,hZ⟩:∃ Z,(zs.drop L).take V = Z:=⟨_,rfl⟩
     rw [hZ] at HTI ⊢
     clear hZ hvl
     by_cases h5:E3 = 0
     ·subst h5
      rw [if_neg (fun h=>h rfl)]
      go_enter Tryz.func47,Tryz.ntmps47
      go_upto_region 1 with fail
      rw [HW1.out]
      go_upto_region 4 with (first
       | (go_at_call 67;refine HLN.out.mono ?_;(rintro r w2 ⟨rfl,hx2,ho2⟩);have HX2:=lH hx2;have HO2:=lH (HO1.out.trans ho2);have HN2:=lH (box_keep5 HN1.out ho2 (Nat.ne_of_gt HGW.out));clear hx2 ho2))
      have q0:=cell_of_row w2 w.heap.size 0 _ _ (0,0) HN2.out
      have q1:=cell_of_row w2 w.heap.size 1 _ _ (0,0) HN2.out
      have k2:=HX2.out.k0
      have j2:=HX2.out.lx.k0
      have hst:=And.intro k2 (And.intro j2 q1)
      go_upto_region 6 with fail
      refine wp_region_heldR (fun W=>W.cell? ⟨m,0,none⟩ = some (.pointer (some ⟨h,0,none⟩)) ∧ W.cell? ⟨h,0,none⟩ = some (.pointer (some ⟨g,0,none⟩)) ∧ W.cell? ⟨w.heap.size,1,none⟩ = some (.int .i64 (V:Int))) 1000 (by kernel_rfl) ⟨k2,j2,q1⟩ (fun hHeld=>?_)
      refine tkQ 0 ?_
      try simp only [Act.put,aS2,aS0,aS1]
      refine tkQ 1 ?_
      try simp only [Act.put,aS2,aS0,aS1]
      refine tkQ 2 ?_
      try simp only [Act.put,aS2,aS0,aS1]
      refine tkQ 3 ?_
      try simp only [Act.put,aS2,aS0,aS1]
      refine tkQ 4 ?_
      try simp only [Act.put,aS2,aS0,aS1]
      refine tkQ 5 ?_
      try simp only [Act.put,aS2,aS0,aS1]
      refine tkQ 6 ?_
      try simp only [Act.put,aS2,aS0,aS1]
      refine tkQ 7 ?_
      try simp only [Act.put,aS2,aS0,aS1]
      refine tkQ 8 ?_
      try simp only [Act.put,aS2,aS0,aS1]
      refine wpAnyR_step 9 rfl (by kernel_rfl) (fun K hK=>?_)
      go_simp
      go_at_call 68
      refine (HTI.out _ (HX2.out.drewN 1)).mono ?_
      rintro r w3 ⟨A3,c3,rfl,hy3,hf3,hcu3,ho3⟩
      have hx3:=(HX2.out.drewN 1).moved ((HX2.out.drewN 1).lx.moved hcu3 ho3 HVL.out) ho3
      have q3:=cell_of_row w3 w.heap.size 1 _ _ (0,0) (box_keep5 (W:=w2.drewN 1) HN2.out ho3 (Nat.ne_of_gt HGW.out))
      have hst3:=And.intro hx3.k0 (And.intro hx3.lx.k0 q3)
      have HX3:=lH hx3
      have HO3:=lH ((HO2.out.drewN 1).trans ho3)
      have HY3:=lH hy3
      have HF3:Hid (From w2.heap.size A3 V):=lH hf3
      have HGL:Hid (g < w2.heap.size):=lH HX2.out.lx.cu.lt
      have HSW:=lH HO2.out.size
      clear hx3 hy3 hf3 hcu3 ho3 k2 j2 q0 q1 hst
      go_wp2_with fail
      refine hK.out _ _ hst3 (fun hHeld=>?_)
      clear hK K
      try simp only [Act.put,aS2,aS0,aS1]
      refine tkQ 10 ?_
      try simp only [Act.put,aS2,aS0,aS1]
      refine tkQ 11 ?_
      try simp only [Act.put,aS2,aS0,aS1]
      refine tkQ 12 ?_
      try simp only [Act.put,aS2,aS0,aS1]
      refine tkQ 13 ?_
      try simp only [Act.put,aS2,aS0,aS1]
      refine tkQ 14 ?_
      try simp only [Act.put,aS2,aS0,aS1]
      refine wpAnyR_done (by kernel_rfl) ?_
      refine NoPanic.normal ?_
      clear hst3 q3
      go_wp2_with (first
       | (go_at_call 29;refine (HWD.out _ HX3.out).mono ?_;(rintro r w5 ⟨rfl,hx5,ho5⟩);have HX5:=lH hx5;have HY5:=lH ((HY3.out.onlyF ho5 HF3.out HGL.out (Nat.le_refl _)).more ho5.size);have HO5:=lH (HO3.out.trans ho5);clear hx5 ho5))
      go_ret2
      exact ⟨_,_,_,rfl,HY5.out,fun h0 b o e=>Nat.le_trans HSW.out (HF3.out h0 b o e),HX5.out,HO5.out⟩
     ·rw [if_pos h5]
      have h5b:(E3 == 0) = false:=beq_eq_false_iff_ne.2 h5
      clear h5
      go_enter Tryz.func47,Tryz.ntmps47
      go_upto_region 1 with fail
      rw [HW1.out]
      go_upto_region 4 with (first
       | (go_at_call 67;refine HLN.out.mono ?_;(rintro r w2 ⟨rfl,hx2,ho2⟩);have HX2:=lH hx2;have HO2:=lH (HO1.out.trans ho2);have HN2:=lH (box_keep5 HN1.out ho2 (Nat.ne_of_gt HGW.out));clear hx2 ho2))
      have q0:=cell_of_row w2 w.heap.size 0 _ _ (0,0) HN2.out
      have q1:=cell_of_row w2 w.heap.size 1 _ _ (0,0) HN2.out
      have k2:=HX2.out.k0
      have j2:=HX2.out.lx.k0
      have hst:=And.intro k2 (And.intro j2 q1)
      go_upto_region 6 with fail
      refine wp_region_heldR (fun W=>W.cell? ⟨m,0,none⟩ = some (.pointer (some ⟨h,0,none⟩)) ∧ W.cell? ⟨h,0,none⟩ = some (.pointer (some ⟨g,0,none⟩)) ∧ W.cell? ⟨w.heap.size,1,none⟩ = some (.int .i64 (V:Int))) 1000 (by kernel_rfl) ⟨k2,j2,q1⟩ (fun hHeld=>?_)
      refine tkQ 0 ?_
      try simp only [Act.put,aS2,aS0,aS1]
      refine tkQ 1 ?_
      try simp only [Act.put,aS2,aS0,aS1]
      refine tkQ 2 ?_
      try simp only [Act.put,aS2,aS0,aS1]
      refine tkQ 3 ?_
      try simp only [Act.put,aS2,aS0,aS1]
      refine tkQ 4 ?_
      try simp only [Act.put,aS2,aS0,aS1]
      refine tkQ 5 ?_
      try simp only [Act.put,aS2,aS0,aS1]
      refine tkQ 6 ?_
      try simp only [Act.put,aS2,aS0,aS1]
      refine tkQ 7 ?_
      try simp only [Act.put,aS2,aS0,aS1]
      refine tkQ 8 ?_
      try simp only [Act.put,aS2,aS0,aS1]
      refine wpAnyR_step 9 rfl (by kernel_rfl) (fun K hK=>?_)
      go_simp
      go_at_call 68
      refine (HTI.out _ (HX2.out.drewN 1)).mono ?_
      rintro r w3 ⟨A3,c3,rfl,hy3,hf3,hcu3,ho3⟩
      have hx3:=(HX2.out.drewN 1).moved ((HX2.out.drewN 1).lx.moved hcu3 ho3 HVL.out) ho3
      have q3:=cell_of_row w3 w.heap.size 1 _ _ (0,0) (box_keep5 (W:=w2.drewN 1) HN2.out ho3 (Nat.ne_of_gt HGW.out))
      have hst3:=And.intro hx3.k0 (And.intro hx3.lx.k0 q3)
      have HX3:=lH hx3
      have HO3:=lH ((HO2.out.drewN 1).trans ho3)
      have HY3:=lH hy3
      have HF3:Hid (From w2.heap.size A3 V):=lH hf3
      have HGL:Hid (g < w2.heap.size):=lH HX2.out.lx.cu.lt
      have HSW:=lH HO2.out.size
      clear hx3 hy3 hf3 hcu3 ho3 k2 j2 q0 q1 hst
      go_wp2_with fail
      refine hK.out _ _ hst3 (fun hHeld=>?_)
      clear hK K
      try simp only [Act.put,aS2,aS0,aS1]
      refine tkQ 10 ?_
      try simp only [Act.put,aS2,aS0,aS1]
      refine tkQ 11 ?_
      try simp only [Act.put,aS2,aS0,aS1]
      refine tkQ 12 ?_
      try simp only [Act.put,aS2,aS0,aS1]
      refine tkQ 13 ?_
      try simp only [Act.put,aS2,aS0,aS1]
      refine tkQ 14 ?_
      try simp only [Act.put,aS2,aS0,aS1]
      refine wpAnyR_done (by kernel_rfl) ?_
      refine NoPanic.normal ?_
      clear hst3 q3
      go_wp2_with (first
       | (go_at_call 29;refine (HWD.out _ HX3.out).mono ?_;(rintro r w5 ⟨rfl,hx5,ho5⟩);have HX5:=lH hx5;have HY5:=lH ((HY3.out.onlyF ho5 HF3.out HGL.out (Nat.le_refl _)).more ho5.size);have HO5:=lH (HO3.out.trans ho5);clear hx5 ho5))
      go_ret2
      exact ⟨_,_,_,rfl,Byt.none_ _ _,fun h0=>absurd h0 (by omega),HX5.out,HO5.out⟩
  ·rw [if_pos (.inl h2)]
   have h2b:(k == 2) = false:=beq_eq_false_iff_ne.2 h2
   have h2n:(k != 2) = true:=by rw [bne,h2b];rfl
   clear h2
   go_enter Tryz.func47,Tryz.ntmps47
   go_upto_region 1 with fail
   rw [HW1.out]
   go_upto_region 4 with (first
    | (go_at_call 67;refine HLN.out.mono ?_;(rintro r w2 ⟨rfl,hx2,ho2⟩);have HX2:=lH hx2;have HO2:=lH (HO1.out.trans ho2);have HN2:=lH (box_keep5 HN1.out ho2 (Nat.ne_of_gt HGW.out));clear hx2 ho2))
   have q0:=cell_of_row w2 w.heap.size 0 _ _ (0,0) HN2.out
   have q1:=cell_of_row w2 w.heap.size 1 _ _ (0,0) HN2.out
   go_wp2_with fail
   go_ret2
   exact ⟨_,_,_,rfl,Byt.none_ _ _,fun h0=>absurd h0 (by omega),HX2.out,HO2.out⟩
 ·rw [if_pos h1]
  have h1b:(E1 == 0) = false:=beq_eq_false_iff_ne.2 h1
  clear h1
  go_enter Tryz.func47,Tryz.ntmps47
  go_upto_region 1 with fail
  rw [HW1.out]
  go_wp2_with (first
   | (go_at_call 67;refine HLN.out.mono ?_;(rintro r w2 ⟨rfl,hx2,ho2⟩);have HX2:=lH hx2;have HO2:=lH (HO1.out.trans ho2);clear hx2 ho2))
  go_ret2
  exact ⟨_,_,_,rfl,Byt.none_ _ _,fun h0=>absurd h0 (by omega),HX2.out,HO2.out⟩
end
section
open Go.RowKit
theorem wrd_blk (zs:List Int) (a b:Nat) (s:ByteArray) (h:blkP zs a = blkP zs b):wrdT zs a s = wrdT zs b s:=by
 unfold wrdT
 rw [tokT_blk zs a b h,h]
def eolT (zs:List Int) (q:Nat):Nat :=
 if peekZ zs (q:Int) = 13 ∧ peekZ zs ((q + 1:Nat):Int) = 10 then q + 2 else if peekZ zs (q:Int) = 13 ∨ peekZ zs (q:Int) = 10 then q + 1 else q
theorem blk_eol (zs:List Int) (q:Nat):blkP zs (eolT zs q) = blkP zs q:=by
 unfold eolT
 split
 ·rename_i h
  have h1:=(blkP_wh zs q (by rw [h.1];decide)).2
  have h2:=(blkP_wh zs (q + 1) (by rw [h.2];decide)).2
  rw [h1,h2]
 split
 ·rename_i h
  have h1:=(blkP_wh zs q (by rcases h with h | h <;> rw [h] <;> decide)).2
  rw [h1]
 ·rfl
theorem wrd_eol (zs:List Int) (q:Nat) (s:ByteArray):wrdT zs (eolT zs q) s = wrdT zs q s:=wrd_blk zs _ _ s (blk_eol zs q)
end
section
open Go.RowKit
def RwtP (m:Nat) (A:Option Addr) (n c d:Nat) (zs:List Int) (w:World) (v e:Int) (q:Nat) (r:Ending) (w':World):Prop :=
 ∃ (k a:Int) (A':Option Addr) (l c':Nat),r = .returned (.tuple #[.agg #[.int .i64 k,.int .i64 a,.int .i64 v,.slice A' l c'],.int .i64 e]) ∧ RX w' m A n c d zs q ∧ Only m w w'
theorem RX.set4 {w:World} {m n c d p b:Nat} {A:Option Addr} {zs:List Int} (x:RX w m A n c d zs p) (hm:m < b) {x0 x1 x2 x3:Value}:RX (set4 w b x0 x1 x2 x3) m A n c d zs p :=
 ⟨x.ld.keep (heap_set4 (Nat.ne_of_lt hm)),
  ⟨x.bt.len,x.bt.cap,x.bt.rng,fun hn=>by
  obtain ⟨b',o,e,hlt,hc⟩:=x.bt.cell hn
  exact ⟨b',o,e,hlt,fun i hi=>(World.cell?_of_block (a:=⟨b',o + i,none⟩) (heap_set4 (show b' ≠ b by omega))).trans (hc i hi)⟩⟩,x.pl,x.sm⟩
set_option maxHeartbeats 4000000 in
theorem rwantW {w:World} {m n c d p:Nat} {A:Option Addr} {zs:List Int} (x:RX w m A n c d zs p) (lo hi:Int) :
  Calls Tryz.prog 52 #[.pointer (some ⟨m,0,none⟩),.int .i64 1,.string ⟨#[]⟩,.int .i64 lo,.int .i64 hi] w (RwtP m A n c d zs w (numT zs p lo hi).1 (numT zs p lo hi).2.1 (numT zs p lo hi).2.2):=by
 unfold numT
 have hb0:=(Below.refl w.heap.size w).alloc (Nat.le_refl _) (.cells #[.int .i64 0,.int .i64 0,.int .i64 0,.slice none 0 0] 99)
 have hbx:=Bx.new w 99 (.int .i64 0) (.int .i64 0) (.int .i64 0) (.slice none 0 0)
 obtain ⟨W0,hW0⟩:∃ W0,w.alloc (.cells #[.int .i64 0,.int .i64 0,.int .i64 0,.slice none 0 0] 99) = W0:=⟨_,rfl⟩
 rw [hW0] at hb0 hbx
 have hx0:=x.low hb0
 have htk:=rtkC hx0
 have hbn:blkP zs p ≤ n:=by have:=(blkP_le zs p x.pz).2;rw [x.len] at this;exact this
 have HBN:=lH hbn
 have HBX0:=lH hbx
 have HO0:=lH (Only.of_below hb0 m)
 have HW0:=lH hW0
 have HMW:=lH x.lt
 obtain ⟨T,hT⟩:∃ T,tokT zs p = T:=⟨_,rfl⟩
 obtain ⟨bp,hbp⟩:∃ bp,blkP zs p = bp:=⟨_,rfl⟩
 rw [hT] at htk ⊢
 rw [hbp] at htk HBN ⊢
 obtain ⟨e,k,v,b,q2⟩:=T
 dsimp only at htk ⊢
 have HTK:=lH htk
 clear htk hbn hT hbp x hb0 hbx hW0 hx0
 by_cases he:e = 0
 ·subst he
  rw [if_neg (fun h=>h rfl)]
  by_cases k0:k = 0
  ·subst k0
   rw [if_neg (fun h=>absurd h.1 (by decide))]
   go_enter Tryz.func52,Tryz.ntmps52
   go_upto_region 1 with fail
   rw [HW0.out]
   go_upto_region 2 with (first
    | (go_at_call 75;refine HTK.out.mono ?_;(rintro r w3 ⟨A3,l3,c3,rfl,hx3,ho3,hy3,hf3⟩);have HX3:=lH hx3;have HO3:=lH ho3;have HY3:=lH hy3;clear hx3 ho3 hy3 hf3))
   have hn4:=Bx.new w3 99 (.int .i64 0) (.int .i64 bp) (.int .i64 v) (.slice A3 l3 c3)
   have hb4:=(Below.refl w3.heap.size w3).alloc (Nat.le_refl _) (.cells #[.int .i64 0,.int .i64 bp,.int .i64 v,.slice A3 l3 c3] 99)
   obtain ⟨w4,hw4⟩:∃ w4,w3.alloc (.cells #[.int .i64 0,.int .i64 bp,.int .i64 v,.slice A3 l3 c3] 99) = w4:=⟨_,rfl⟩
   rw [hw4] at hn4 hb4
   rw [hw4]
   have t0:=hn4.c0
   have t1:=hn4.c1
   have t2:=hn4.c2
   have t3:=hn4.c3
   have HX4:=lH (HX3.out.low hb4)
   have ho4:=HO3.out.trans (Only.of_below hb4 m)
   have HO4:=lH (HO0.out.trans ho4)
   have HY4:=lH ((HY3.out.below hb4 (Nat.le_refl _)).more hb4.size)
   have HB4:=lH (HBX0.out.only ho4 (Nat.ne_of_gt HMW.out))
   clear hn4 hb4 hw4 ho4
   have s1:=HX4.out.c1
   have sf:=HX4.out.ld.fr 1
   have hs:=HX4.out.seek bp HBN.out
   have hb9:=HB4.out.only hs.2 (Nat.ne_of_gt HMW.out)
   have ho9:=HO4.out.trans hs.2
   go_upto_region 6 with fail
   obtain ⟨w9,hw9⟩:∃ w9,w4.setCell ⟨m,1,none⟩ (.int .i64 (bp:Int)) = w9:=⟨_,rfl⟩
   rw [hw9] at hs hb9 ho9
   rw [hw9]
   have HX4:=lH hs.1
   have HB4:=lH hb9
   have HO4:=lH ho9
   clear hs hb9 ho9 hw9 s1 sf t0 t1 t2 t3
   have z0:=HB4.out.c0
   have z1:=HB4.out.c1
   have z2:=HB4.out.c2
   have z3:=HB4.out.c3
   have zf:=HB4.out.fr
   go_wp2_with fail
   refine bodyPost_ret (results_cell_row_tmp rfl _ _ w.heap.size 99 _ (0,0) _ rfl HB4.out.set4_ Tryz.underlying99 rfl (by kernel_rfl) _ rfl) rfl ?_
   exact ⟨_,_,_,_,_,rfl,HX4.out.set4 HMW.out,HO4.out.set4_ (Nat.le_refl _)⟩
  have k0b:(k == 0) = false:=beq_eq_false_iff_ne.2 k0
  have hwz:wrgZ k = 4:=if_neg k0
  rw [hwz]
  clear hwz k0
  by_cases hk:k = 1
  ·subst hk
   by_cases h1:lo ≤ v
   ·have g1:decide (v < lo) = false:=decide_eq_false (by omega)
    by_cases h2:v ≤ hi
    ·rw [if_pos ⟨rfl,h1,h2⟩]
     have g3:decide (hi < v) = false:=decide_eq_false (by omega)
     go_enter Tryz.func52,Tryz.ntmps52
     go_upto_region 1 with fail
     rw [HW0.out]
     go_upto_region 2 with (first
      | (go_at_call 75;refine HTK.out.mono ?_;(rintro r w3 ⟨A3,l3,c3,rfl,hx3,ho3,hy3,hf3⟩);have HX3:=lH hx3;have HO3:=lH ho3;have HY3:=lH hy3;clear hx3 ho3 hy3 hf3))
     have hn4:=Bx.new w3 99 (.int .i64 1) (.int .i64 bp) (.int .i64 v) (.slice A3 l3 c3)
     have hb4:=(Below.refl w3.heap.size w3).alloc (Nat.le_refl _) (.cells #[.int .i64 1,.int .i64 bp,.int .i64 v,.slice A3 l3 c3] 99)
     obtain ⟨w4,hw4⟩:∃ w4,w3.alloc (.cells #[.int .i64 1,.int .i64 bp,.int .i64 v,.slice A3 l3 c3] 99) = w4:=⟨_,rfl⟩
     rw [hw4] at hn4 hb4
     rw [hw4]
     have t0:=hn4.c0
     have t1:=hn4.c1
     have t2:=hn4.c2
     have t3:=hn4.c3
     have HX4:=lH (HX3.out.low hb4)
     have ho4:=HO3.out.trans (Only.of_below hb4 m)
     have HO4:=lH (HO0.out.trans ho4)
     have HY4:=lH ((HY3.out.below hb4 (Nat.le_refl _)).more hb4.size)
     have HB4:=lH (HBX0.out.only ho4 (Nat.ne_of_gt HMW.out))
     clear hn4 hb4 hw4 ho4
     have z0:=HB4.out.c0
     have z1:=HB4.out.c1
     have z2:=HB4.out.c2
     have z3:=HB4.out.c3
     have zf:=HB4.out.fr
     go_wp2_with fail
     refine bodyPost_ret (results_cell_row_tmp rfl _ _ w.heap.size 99 _ (0,0) _ rfl HB4.out.set4_ Tryz.underlying99 rfl (by kernel_rfl) _ rfl) rfl ?_
     exact ⟨_,_,_,_,_,rfl,HX4.out.set4 HMW.out,HO4.out.set4_ (Nat.le_refl _)⟩
    ·rw [if_neg (fun h=>h2 h.2.2)]
     have g3:decide (hi < v) = true:=decide_eq_true (by omega)
     go_enter Tryz.func52,Tryz.ntmps52
     go_upto_region 1 with fail
     rw [HW0.out]
     go_upto_region 2 with (first
      | (go_at_call 75;refine HTK.out.mono ?_;(rintro r w3 ⟨A3,l3,c3,rfl,hx3,ho3,hy3,hf3⟩);have HX3:=lH hx3;have HO3:=lH ho3;have HY3:=lH hy3;clear hx3 ho3 hy3 hf3))
     have hn4:=Bx.new w3 99 (.int .i64 1) (.int .i64 bp) (.int .i64 v) (.slice A3 l3 c3)
     have hb4:=(Below.refl w3.heap.size w3).alloc (Nat.le_refl _) (.cells #[.int .i64 1,.int .i64 bp,.int .i64 v,.slice A3 l3 c3] 99)
     obtain ⟨w4,hw4⟩:∃ w4,w3.alloc (.cells #[.int .i64 1,.int .i64 bp,.int .i64 v,.slice A3 l3 c3] 99) = w4:=⟨_,rfl⟩
     rw [hw4] at hn4 hb4
     rw [hw4]
     have t0:=hn4.c0
     have t1:=hn4.c1
     have t2:=hn4.c2
     have t3:=hn4.c3
     have HX4:=lH (HX3.out.low hb4)
     have ho4:=HO3.out.trans (Only.of_below hb4 m)
     have HO4:=lH (HO0.out.trans ho4)
     have HY4:=lH ((HY3.out.below hb4 (Nat.le_refl _)).more hb4.size)
     have HB4:=lH (HBX0.out.only ho4 (Nat.ne_of_gt HMW.out))
     clear hn4 hb4 hw4 ho4
     have s1:=HX4.out.c1
     have sf:=HX4.out.ld.fr 1
     have hs:=HX4.out.seek bp HBN.out
     have hb9:=HB4.out.only hs.2 (Nat.ne_of_gt HMW.out)
     have ho9:=HO4.out.trans hs.2
     go_upto_region 9 with fail
     obtain ⟨w9,hw9⟩:∃ w9,w4.setCell ⟨m,1,none⟩ (.int .i64 (bp:Int)) = w9:=⟨_,rfl⟩
     rw [hw9] at hs hb9 ho9
     rw [hw9]
     have HX4:=lH hs.1
     have HB4:=lH hb9
     have HO4:=lH ho9
     clear hs hb9 ho9 hw9 s1 sf t0 t1 t2 t3
     have z0:=HB4.out.c0
     have z1:=HB4.out.c1
     have z2:=HB4.out.c2
     have z3:=HB4.out.c3
     have zf:=HB4.out.fr
     go_wp2_with fail
     refine bodyPost_ret (results_cell_row_tmp rfl _ _ w.heap.size 99 _ (0,0) _ rfl HB4.out.set4_ Tryz.underlying99 rfl (by kernel_rfl) _ rfl) rfl ?_
     exact ⟨_,_,_,_,_,rfl,HX4.out.set4 HMW.out,HO4.out.set4_ (Nat.le_refl _)⟩
   ·rw [if_neg (fun h=>h1 h.2.1)]
    have g1:decide (v < lo) = true:=decide_eq_true (by omega)
    go_enter Tryz.func52,Tryz.ntmps52
    go_upto_region 1 with fail
    rw [HW0.out]
    go_upto_region 2 with (first
     | (go_at_call 75;refine HTK.out.mono ?_;(rintro r w3 ⟨A3,l3,c3,rfl,hx3,ho3,hy3,hf3⟩);have HX3:=lH hx3;have HO3:=lH ho3;have HY3:=lH hy3;clear hx3 ho3 hy3 hf3))
    have hn4:=Bx.new w3 99 (.int .i64 1) (.int .i64 bp) (.int .i64 v) (.slice A3 l3 c3)
    have hb4:=(Below.refl w3.heap.size w3).alloc (Nat.le_refl _) (.cells #[.int .i64 1,.int .i64 bp,.int .i64 v,.slice A3 l3 c3] 99)
    obtain ⟨w4,hw4⟩:∃ w4,w3.alloc (.cells #[.int .i64 1,.int .i64 bp,.int .i64 v,.slice A3 l3 c3] 99) = w4:=⟨_,rfl⟩
    rw [hw4] at hn4 hb4
    rw [hw4]
    have t0:=hn4.c0
    have t1:=hn4.c1
    have t2:=hn4.c2
    have t3:=hn4.c3
    have HX4:=lH (HX3.out.low hb4)
    have ho4:=HO3.out.trans (Only.of_below hb4 m)
    have HO4:=lH (HO0.out.trans ho4)
    have HY4:=lH ((HY3.out.below hb4 (Nat.le_refl _)).more hb4.size)
    have HB4:=lH (HBX0.out.only ho4 (Nat.ne_of_gt HMW.out))
    clear hn4 hb4 hw4 ho4
    have s1:=HX4.out.c1
    have sf:=HX4.out.ld.fr 1
    have hs:=HX4.out.seek bp HBN.out
    have hb9:=HB4.out.only hs.2 (Nat.ne_of_gt HMW.out)
    have ho9:=HO4.out.trans hs.2
    go_upto_region 9 with fail
    obtain ⟨w9,hw9⟩:∃ w9,w4.setCell ⟨m,1,none⟩ (.int .i64 (bp:Int)) = w9:=⟨_,rfl⟩
    rw [hw9] at hs hb9 ho9
    rw [hw9]
    have HX4:=lH hs.1
    have HB4:=lH hb9
    have HO4:=lH ho9
    clear hs hb9 ho9 hw9 s1 sf t0 t1 t2 t3
    have z0:=HB4.out.c0
    have z1:=HB4.out.c1
    have z2:=HB4.out.c2
    have z3:=HB4.out.c3
    have zf:=HB4.out.fr
    go_wp2_with fail
    refine bodyPost_ret (results_cell_row_tmp rfl _ _ w.heap.size 99 _ (0,0) _ rfl HB4.out.set4_ Tryz.underlying99 rfl (by kernel_rfl) _ rfl) rfl ?_
    exact ⟨_,_,_,_,_,rfl,HX4.out.set4 HMW.out,HO4.out.set4_ (Nat.le_refl _)⟩
  ·rw [if_neg (fun h=>hk h.1)]
   have hkb:(k == 1) = false:=beq_eq_false_iff_ne.2 hk
   have hkn:(k != 1) = true:=by rw [bne,hkb];rfl
   clear hk
   go_enter Tryz.func52,Tryz.ntmps52
   go_upto_region 1 with fail
   rw [HW0.out]
   go_upto_region 2 with (first
    | (go_at_call 75;refine HTK.out.mono ?_;(rintro r w3 ⟨A3,l3,c3,rfl,hx3,ho3,hy3,hf3⟩);have HX3:=lH hx3;have HO3:=lH ho3;have HY3:=lH hy3;clear hx3 ho3 hy3 hf3))
   have hn4:=Bx.new w3 99 (.int .i64 k) (.int .i64 bp) (.int .i64 v) (.slice A3 l3 c3)
   have hb4:=(Below.refl w3.heap.size w3).alloc (Nat.le_refl _) (.cells #[.int .i64 k,.int .i64 bp,.int .i64 v,.slice A3 l3 c3] 99)
   obtain ⟨w4,hw4⟩:∃ w4,w3.alloc (.cells #[.int .i64 k,.int .i64 bp,.int .i64 v,.slice A3 l3 c3] 99) = w4:=⟨_,rfl⟩
   rw [hw4] at hn4 hb4
   rw [hw4]
   have t0:=hn4.c0
   have t1:=hn4.c1
   have t2:=hn4.c2
   have t3:=hn4.c3
   have HX4:=lH (HX3.out.low hb4)
   have ho4:=HO3.out.trans (Only.of_below hb4 m)
   have HO4:=lH (HO0.out.trans ho4)
   have HY4:=lH ((HY3.out.below hb4 (Nat.le_refl _)).more hb4.size)
   have HB4:=lH (HBX0.out.only ho4 (Nat.ne_of_gt HMW.out))
   clear hn4 hb4 hw4 ho4
   have s1:=HX4.out.c1
   have sf:=HX4.out.ld.fr 1
   have hs:=HX4.out.seek bp HBN.out
   have hb9:=HB4.out.only hs.2 (Nat.ne_of_gt HMW.out)
   have ho9:=HO4.out.trans hs.2
   go_upto_region 9 with fail
   obtain ⟨w9,hw9⟩:∃ w9,w4.setCell ⟨m,1,none⟩ (.int .i64 (bp:Int)) = w9:=⟨_,rfl⟩
   rw [hw9] at hs hb9 ho9
   rw [hw9]
   have HX4:=lH hs.1
   have HB4:=lH hb9
   have HO4:=lH ho9
   clear hs hb9 ho9 hw9 s1 sf t0 t1 t2 t3
   have z0:=HB4.out.c0
   have z1:=HB4.out.c1
   have z2:=HB4.out.c2
   have z3:=HB4.out.c3
   have zf:=HB4.out.fr
   go_wp2_with fail
   refine bodyPost_ret (results_cell_row_tmp rfl _ _ w.heap.size 99 _ (0,0) _ rfl HB4.out.set4_ Tryz.underlying99 rfl (by kernel_rfl) _ rfl) rfl ?_
   exact ⟨_,_,_,_,_,rfl,HX4.out.set4 HMW.out,HO4.out.set4_ (Nat.le_refl _)⟩
 ·rw [if_pos he]
  have heb:(e == 0) = false:=beq_eq_false_iff_ne.2 he
  clear he
  go_enter Tryz.func52,Tryz.ntmps52
  go_upto_region 1 with fail
  rw [HW0.out]
  go_upto_region 2 with (first
   | (go_at_call 75;refine HTK.out.mono ?_;(rintro r w3 ⟨A3,l3,c3,rfl,hx3,ho3,hy3,hf3⟩);have HX3:=lH hx3;have HO3:=lH ho3;have HY3:=lH hy3;clear hx3 ho3 hy3 hf3))
  have hn4:=Bx.new w3 99 (.int .i64 k) (.int .i64 bp) (.int .i64 v) (.slice A3 l3 c3)
  have hb4:=(Below.refl w3.heap.size w3).alloc (Nat.le_refl _) (.cells #[.int .i64 k,.int .i64 bp,.int .i64 v,.slice A3 l3 c3] 99)
  obtain ⟨w4,hw4⟩:∃ w4,w3.alloc (.cells #[.int .i64 k,.int .i64 bp,.int .i64 v,.slice A3 l3 c3] 99) = w4:=⟨_,rfl⟩
  rw [hw4] at hn4 hb4
  rw [hw4]
  have t0:=hn4.c0
  have t1:=hn4.c1
  have t2:=hn4.c2
  have t3:=hn4.c3
  have HX4:=lH (HX3.out.low hb4)
  have ho4:=HO3.out.trans (Only.of_below hb4 m)
  have HO4:=lH (HO0.out.trans ho4)
  have HY4:=lH ((HY3.out.below hb4 (Nat.le_refl _)).more hb4.size)
  have HB4:=lH (HBX0.out.only ho4 (Nat.ne_of_gt HMW.out))
  clear hn4 hb4 hw4 ho4
  have z0:=HB4.out.c0
  have z1:=HB4.out.c1
  have z2:=HB4.out.c2
  have z3:=HB4.out.c3
  have zf:=HB4.out.fr
  go_wp2_with fail
  refine bodyPost_ret (results_cell_row_tmp rfl _ _ w.heap.size 99 _ (0,0) _ rfl HB4.out.set4_ Tryz.underlying99 rfl (by kernel_rfl) _ rfl) rfl ?_
  exact ⟨_,_,_,_,_,rfl,HX4.out.set4 HMW.out,HO4.out.set4_ (Nat.le_refl _)⟩
set_option maxHeartbeats 4000000 in
theorem rwantS {w:World} {m n c d p:Nat} {A:Option Addr} {zs:List Int} (x:RX w m A n c d zs p) (s:ByteArray) :
  Calls Tryz.prog 52 #[.pointer (some ⟨m,0,none⟩),.int .i64 9,.string s,.int .i64 0,.int .i64 0] w (fun r w'=>∃ vv,RwtP m A n c d zs w vv (wrdT zs p s).1 (wrdT zs p s).2 r w'):=by
 unfold wrdT
 have hb0:=(Below.refl w.heap.size w).alloc (Nat.le_refl _) (.cells #[.int .i64 0,.int .i64 0,.int .i64 0,.slice none 0 0] 99)
 have hbx:=Bx.new w 99 (.int .i64 0) (.int .i64 0) (.int .i64 0) (.slice none 0 0)
 obtain ⟨W0,hW0⟩:∃ W0,w.alloc (.cells #[.int .i64 0,.int .i64 0,.int .i64 0,.slice none 0 0] 99) = W0:=⟨_,rfl⟩
 rw [hW0] at hb0 hbx
 have hx0:=x.low hb0
 have htk:=rtkC hx0
 have hbn:blkP zs p ≤ n:=by have:=(blkP_le zs p x.pz).2;rw [x.len] at this;exact this
 have HBN:=lH hbn
 have HBX0:=lH hbx
 have HO0:=lH (Only.of_below hb0 m)
 have HW0:=lH hW0
 have HMW:=lH x.lt
 obtain ⟨T,hT⟩:∃ T,tokT zs p = T:=⟨_,rfl⟩
 obtain ⟨bp,hbp⟩:∃ bp,blkP zs p = bp:=⟨_,rfl⟩
 rw [hT] at htk ⊢
 rw [hbp] at htk HBN ⊢
 obtain ⟨e,k,v,b,q2⟩:=T
 dsimp only at htk ⊢
 have HTK:=lH htk
 clear htk hbn hT hbp x hb0 hbx hW0 hx0
 by_cases he:e = 0
 ·subst he
  rw [if_neg (fun h=>h rfl)]
  by_cases k0:k = 0
  ·subst k0
   rw [if_neg (fun h=>absurd h.1 (by decide))]
   go_enter Tryz.func52,Tryz.ntmps52
   go_upto_region 1 with fail
   rw [HW0.out]
   go_upto_region 2 with (first
    | (go_at_call 75;refine HTK.out.mono ?_;(rintro r w3 ⟨A3,l3,c3,rfl,hx3,ho3,hy3,hf3⟩);have HX3:=lH hx3;have HO3:=lH ho3;have HY3:=lH hy3;clear hx3 ho3 hy3 hf3))
   have hn4:=Bx.new w3 99 (.int .i64 0) (.int .i64 bp) (.int .i64 v) (.slice A3 l3 c3)
   have hb4:=(Below.refl w3.heap.size w3).alloc (Nat.le_refl _) (.cells #[.int .i64 0,.int .i64 bp,.int .i64 v,.slice A3 l3 c3] 99)
   obtain ⟨w4,hw4⟩:∃ w4,w3.alloc (.cells #[.int .i64 0,.int .i64 bp,.int .i64 v,.slice A3 l3 c3] 99) = w4:=⟨_,rfl⟩
   rw [hw4] at hn4 hb4
   rw [hw4]
   have t0:=hn4.c0
   have t1:=hn4.c1
   have t2:=hn4.c2
   have t3:=hn4.c3
   have HX4:=lH (HX3.out.low hb4)
   have ho4:=HO3.out.trans (Only.of_below hb4 m)
   have HO4:=lH (HO0.out.trans ho4)
   have HY4:=lH ((HY3.out.below hb4 (Nat.le_refl _)).more hb4.size)
   have HB4:=lH (HBX0.out.only ho4 (Nat.ne_of_gt HMW.out))
   clear hn4 hb4 hw4 ho4
   have s1:=HX4.out.c1
   have sf:=HX4.out.ld.fr 1
   have hs:=HX4.out.seek bp HBN.out
   have hb9:=HB4.out.only hs.2 (Nat.ne_of_gt HMW.out)
   have ho9:=HO4.out.trans hs.2
   go_upto_region 6 with fail
   obtain ⟨w9,hw9⟩:∃ w9,w4.setCell ⟨m,1,none⟩ (.int .i64 (bp:Int)) = w9:=⟨_,rfl⟩
   rw [hw9] at hs hb9 ho9
   rw [hw9]
   have HX4:=lH hs.1
   have HB4:=lH hb9
   have HO4:=lH ho9
   clear hs hb9 ho9 hw9 s1 sf t0 t1 t2 t3
   have z0:=HB4.out.c0
   have z1:=HB4.out.c1
   have z2:=HB4.out.c2
   have z3:=HB4.out.c3
   have zf:=HB4.out.fr
   go_wp2_with fail
   refine bodyPost_ret (results_cell_row_tmp rfl _ _ w.heap.size 99 _ (0,0) _ rfl HB4.out.set4_ Tryz.underlying99 rfl (by kernel_rfl) _ rfl) rfl ?_
   exact ⟨_,_,_,_,_,_,rfl,HX4.out.set4 HMW.out,HO4.out.set4_ (Nat.le_refl _)⟩
  have k0b:(k == 0) = false:=beq_eq_false_iff_ne.2 k0
  have hwz:wrgZ k = 4:=if_neg k0
  rw [hwz]
  clear hwz k0
  by_cases hk:k = 9
  ·subst hk
   obtain ⟨t,ht⟩:∃ t,strOfNums b = t:=⟨_,rfl⟩
   rw [ht]
   have HT:=lH ht
   clear ht
   by_cases h1:t = s
   ·subst h1
    rw [if_pos ⟨rfl,rfl⟩]
    go_enter Tryz.func52,Tryz.ntmps52
    go_upto_region 1 with fail
    rw [HW0.out]
    go_upto_region 2 with (first
     | (go_at_call 75;refine HTK.out.mono ?_;(rintro r w3 ⟨A3,l3,c3,rfl,hx3,ho3,hy3,hf3⟩);have HX3:=lH hx3;have HO3:=lH ho3;have HY3:=lH hy3;clear hx3 ho3 hy3 hf3))
    have hn4:=Bx.new w3 99 (.int .i64 9) (.int .i64 bp) (.int .i64 v) (.slice A3 l3 c3)
    have hb4:=(Below.refl w3.heap.size w3).alloc (Nat.le_refl _) (.cells #[.int .i64 9,.int .i64 bp,.int .i64 v,.slice A3 l3 c3] 99)
    obtain ⟨w4,hw4⟩:∃ w4,w3.alloc (.cells #[.int .i64 9,.int .i64 bp,.int .i64 v,.slice A3 l3 c3] 99) = w4:=⟨_,rfl⟩
    rw [hw4] at hn4 hb4
    rw [hw4]
    have t0:=hn4.c0
    have t1:=hn4.c1
    have t2:=hn4.c2
    have t3:=hn4.c3
    have HX4:=lH (HX3.out.low hb4)
    have ho4:=HO3.out.trans (Only.of_below hb4 m)
    have HO4:=lH (HO0.out.trans ho4)
    have HY4:=lH ((HY3.out.below hb4 (Nat.le_refl _)).more hb4.size)
    have HB4:=lH (HBX0.out.only ho4 (Nat.ne_of_gt HMW.out))
    clear hn4 hb4 hw4 ho4
    have hcv:=conv_str HY4.out t HT.out
    have z0:=HB4.out.c0
    have z1:=HB4.out.c1
    have z2:=HB4.out.c2
    have z3:=HB4.out.c3
    have zf:=HB4.out.fr
    go_wp2_with fail
    refine bodyPost_ret (results_cell_row_tmp rfl _ _ w.heap.size 99 _ (0,0) _ rfl HB4.out.set4_ Tryz.underlying99 rfl (by kernel_rfl) _ rfl) rfl ?_
    exact ⟨_,_,_,_,_,_,rfl,HX4.out.set4 HMW.out,HO4.out.set4_ (Nat.le_refl _)⟩
   ·rw [if_neg (fun h=>h1 h.2)]
    have hne:(t.toList == s.toList) = false:=str_ne h1
    clear h1
    go_enter Tryz.func52,Tryz.ntmps52
    go_upto_region 1 with fail
    rw [HW0.out]
    go_upto_region 2 with (first
     | (go_at_call 75;refine HTK.out.mono ?_;(rintro r w3 ⟨A3,l3,c3,rfl,hx3,ho3,hy3,hf3⟩);have HX3:=lH hx3;have HO3:=lH ho3;have HY3:=lH hy3;clear hx3 ho3 hy3 hf3))
    have hn4:=Bx.new w3 99 (.int .i64 9) (.int .i64 bp) (.int .i64 v) (.slice A3 l3 c3)
    have hb4:=(Below.refl w3.heap.size w3).alloc (Nat.le_refl _) (.cells #[.int .i64 9,.int .i64 bp,.int .i64 v,.slice A3 l3 c3] 99)
    obtain ⟨w4,hw4⟩:∃ w4,w3.alloc (.cells #[.int .i64 9,.int .i64 bp,.int .i64 v,.slice A3 l3 c3] 99) = w4:=⟨_,rfl⟩
    rw [hw4] at hn4 hb4
    rw [hw4]
    have t0:=hn4.c0
    have t1:=hn4.c1
    have t2:=hn4.c2
    have t3:=hn4.c3
    have HX4:=lH (HX3.out.low hb4)
    have ho4:=HO3.out.trans (Only.of_below hb4 m)
    have HO4:=lH (HO0.out.trans ho4)
    have HY4:=lH ((HY3.out.below hb4 (Nat.le_refl _)).more hb4.size)
    have HB4:=lH (HBX0.out.only ho4 (Nat.ne_of_gt HMW.out))
    clear hn4 hb4 hw4 ho4
    have hcv:=conv_str HY4.out t HT.out
    have s1:=HX4.out.c1
    have sf:=HX4.out.ld.fr 1
    have hs:=HX4.out.seek bp HBN.out
    have hb9:=HB4.out.only hs.2 (Nat.ne_of_gt HMW.out)
    have ho9:=HO4.out.trans hs.2
    go_upto_region 9 with fail
    obtain ⟨w9,hw9⟩:∃ w9,w4.setCell ⟨m,1,none⟩ (.int .i64 (bp:Int)) = w9:=⟨_,rfl⟩
    rw [hw9] at hs hb9 ho9
    rw [hw9]
    have HX4:=lH hs.1
    have HB4:=lH hb9
    have HO4:=lH ho9
    clear hs hb9 ho9 hw9 s1 sf t0 t1 t2 t3
    clear hcv
    have z0:=HB4.out.c0
    have z1:=HB4.out.c1
    have z2:=HB4.out.c2
    have z3:=HB4.out.c3
    have zf:=HB4.out.fr
    go_wp2_with fail
    refine bodyPost_ret (results_cell_row_tmp rfl _ _ w.heap.size 99 _ (0,0) _ rfl HB4.out.set4_ Tryz.underlying99 rfl (by kernel_rfl) _ rfl) rfl ?_
    exact ⟨_,_,_,_,_,_,rfl,HX4.out.set4 HMW.out,HO4.out.set4_ (Nat.le_refl _)⟩
  ·rw [if_neg (fun h=>hk h.1)]
   have hkb:(k == 9) = false:=beq_eq_false_iff_ne.2 hk
   have hkn:(k != 9) = true:=by rw [bne,hkb];rfl
   clear hk
   go_enter Tryz.func52,Tryz.ntmps52
   go_upto_region 1 with fail
   rw [HW0.out]
   go_upto_region 2 with (first
    | (go_at_call 75;refine HTK.out.mono ?_;(rintro r w3 ⟨A3,l3,c3,rfl,hx3,ho3,hy3,hf3⟩);have HX3:=lH hx3;have HO3:=lH ho3;have HY3:=lH hy3;clear hx3 ho3 hy3 hf3))
   have hn4:=Bx.new w3 99 (.int .i64 k) (.int .i64 bp) (.int .i64 v) (.slice A3 l3 c3)
   have hb4:=(Below.refl w3.heap.size w3).alloc (Nat.le_refl _) (.cells #[.int .i64 k,.int .i64 bp,.int .i64 v,.slice A3 l3 c3] 99)
   obtain ⟨w4,hw4⟩:∃ w4,w3.alloc (.cells #[.int .i64 k,.int .i64 bp,.int .i64 v,.slice A3 l3 c3] 99) = w4:=⟨_,rfl⟩
   rw [hw4] at hn4 hb4
   rw [hw4]
   have t0:=hn4.c0
   have t1:=hn4.c1
   have t2:=hn4.c2
   have t3:=hn4.c3
   have HX4:=lH (HX3.out.low hb4)
   have ho4:=HO3.out.trans (Only.of_below hb4 m)
   have HO4:=lH (HO0.out.trans ho4)
   have HY4:=lH ((HY3.out.below hb4 (Nat.le_refl _)).more hb4.size)
   have HB4:=lH (HBX0.out.only ho4 (Nat.ne_of_gt HMW.out))
   clear hn4 hb4 hw4 ho4
   have s1:=HX4.out.c1
   have sf:=HX4.out.ld.fr 1
   have hs:=HX4.out.seek bp HBN.out
   have hb9:=HB4.out.only hs.2 (Nat.ne_of_gt HMW.out)
   have ho9:=HO4.out.trans hs.2
   go_upto_region 9 with fail
   obtain ⟨w9,hw9⟩:∃ w9,w4.setCell ⟨m,1,none⟩ (.int .i64 (bp:Int)) = w9:=⟨_,rfl⟩
   rw [hw9] at hs hb9 ho9
   rw [hw9]
   have HX4:=lH hs.1
   have HB4:=lH hb9
   have HO4:=lH ho9
   clear hs hb9 ho9 hw9 s1 sf t0 t1 t2 t3
   have z0:=HB4.out.c0
   have z1:=HB4.out.c1
   have z2:=HB4.out.c2
   have z3:=HB4.out.c3
   have zf:=HB4.out.fr
   go_wp2_with fail
   refine bodyPost_ret (results_cell_row_tmp rfl _ _ w.heap.size 99 _ (0,0) _ rfl HB4.out.set4_ Tryz.underlying99 rfl (by kernel_rfl) _ rfl) rfl ?_
   exact ⟨_,_,_,_,_,_,rfl,HX4.out.set4 HMW.out,HO4.out.set4_ (Nat.le_refl _)⟩
 ·rw [if_pos he]
  have heb:(e == 0) = false:=beq_eq_false_iff_ne.2 he
  clear he
  go_enter Tryz.func52,Tryz.ntmps52
  go_upto_region 1 with fail
  rw [HW0.out]
  go_upto_region 2 with (first
   | (go_at_call 75;refine HTK.out.mono ?_;(rintro r w3 ⟨A3,l3,c3,rfl,hx3,ho3,hy3,hf3⟩);have HX3:=lH hx3;have HO3:=lH ho3;have HY3:=lH hy3;clear hx3 ho3 hy3 hf3))
  have hn4:=Bx.new w3 99 (.int .i64 k) (.int .i64 bp) (.int .i64 v) (.slice A3 l3 c3)
  have hb4:=(Below.refl w3.heap.size w3).alloc (Nat.le_refl _) (.cells #[.int .i64 k,.int .i64 bp,.int .i64 v,.slice A3 l3 c3] 99)
  obtain ⟨w4,hw4⟩:∃ w4,w3.alloc (.cells #[.int .i64 k,.int .i64 bp,.int .i64 v,.slice A3 l3 c3] 99) = w4:=⟨_,rfl⟩
  rw [hw4] at hn4 hb4
  rw [hw4]
  have t0:=hn4.c0
  have t1:=hn4.c1
  have t2:=hn4.c2
  have t3:=hn4.c3
  have HX4:=lH (HX3.out.low hb4)
  have ho4:=HO3.out.trans (Only.of_below hb4 m)
  have HO4:=lH (HO0.out.trans ho4)
  have HY4:=lH ((HY3.out.below hb4 (Nat.le_refl _)).more hb4.size)
  have HB4:=lH (HBX0.out.only ho4 (Nat.ne_of_gt HMW.out))
  clear hn4 hb4 hw4 ho4
  have z0:=HB4.out.c0
  have z1:=HB4.out.c1
  have z2:=HB4.out.c2
  have z3:=HB4.out.c3
  have zf:=HB4.out.fr
  go_wp2_with fail
  refine bodyPost_ret (results_cell_row_tmp rfl _ _ w.heap.size 99 _ (0,0) _ rfl HB4.out.set4_ Tryz.underlying99 rfl (by kernel_rfl) _ rfl) rfl ?_
  exact ⟨_,_,_,_,_,_,rfl,HX4.out.set4 HMW.out,HO4.out.set4_ (Nat.le_refl _)⟩
theorem rWholeC {w:World} {m n c d p:Nat} {A:Option Addr} {zs:List Int} (x:RX w m A n c d zs p) (lo hi:Int) :
  Calls Tryz.prog 30 #[.pointer (some ⟨m,0,none⟩),.int .i64 lo,.int .i64 hi] w fun r w'=>r = .returned (.tuple #[.int .i64 (numT zs p lo hi).1,.int .i64 (numT zs p lo hi).2.1]) ∧ RX w' m A n c d zs (numT zs p lo hi).2.2 ∧ Only m w w':=by
 have HWT:=lH (rwantW x lo hi)
 obtain ⟨R,hR⟩:∃ R,numT zs p lo hi = R:=⟨_,rfl⟩
 rw [hR] at HWT ⊢
 obtain ⟨V,E,Q⟩:=R
 clear hR x
 go_enter Tryz.func30,Tryz.ntmps30
 go_upto_region 2 with (first
  | (go_at_call 52;refine HWT.out.mono ?_;(rintro r w3 ⟨k,a,A3,l3,c3,rfl,hx3,ho3⟩);have HX3:=lH hx3;have HO3:=lH ho3;clear hx3 ho3))
 have hn4:=Bx.new w3 99 (.int .i64 k) (.int .i64 a) (.int .i64 V) (.slice A3 l3 c3)
 have hb4:=(Below.refl w3.heap.size w3).alloc (Nat.le_refl _) (.cells #[.int .i64 k,.int .i64 a,.int .i64 V,.slice A3 l3 c3] 99)
 have t2:=hn4.c2
 have HX4:=lH (HX3.out.low hb4)
 have HO4:=lH (HO3.out.trans (Only.of_below hb4 m))
 clear hn4 hb4
 go_wp2_with fail
 go_ret2
 exact ⟨rfl,HX4.out,HO4.out⟩
theorem rWantC {w:World} {m n c d p:Nat} {A:Option Addr} {zs:List Int} (x:RX w m A n c d zs p) (s:ByteArray) :
  Calls Tryz.prog 31 #[.pointer (some ⟨m,0,none⟩),.string s] w fun r w'=>r = .returned (.int .i64 (wrdT zs p s).1) ∧ RX w' m A n c d zs (wrdT zs p s).2 ∧ Only m w w':=by
 have HWT:=lH (rwantS x s)
 obtain ⟨R,hR⟩:∃ R,wrdT zs p s = R:=⟨_,rfl⟩
 rw [hR] at HWT ⊢
 obtain ⟨E,Q⟩:=R
 clear hR x
 go_enter Tryz.func31,Tryz.ntmps31
 go_upto_region 2 with (first
  | (go_at_call 52;refine HWT.out.mono ?_;(rintro r w3 ⟨V,k,a,A3,l3,c3,rfl,hx3,ho3⟩);have HX3:=lH hx3;have HO3:=lH ho3;clear hx3 ho3))
 have hb4:=(Below.refl w3.heap.size w3).alloc (Nat.le_refl _) (.cells #[.int .i64 k,.int .i64 a,.int .i64 V,.slice A3 l3 c3] 99)
 have HX4:=lH (HX3.out.low hb4)
 have HO4:=lH (HO3.out.trans (Only.of_below hb4 m))
 clear hb4
 go_wp2_with fail
 go_ret
 exact ⟨rfl,HX4.out,HO4.out⟩
end
end Go.Proofs.YtpomkhcobpihmaaGreat
