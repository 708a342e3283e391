/- Lemmas. -/
import Derived.Test.YtpomkhcobpihmaaGreatPad38
import Derived.Test.YtpomkhcobpihmaaGreatPad46
namespace Go.Proofs.YtpomkhcobpihmaaGreat
set_option maxRecDepth 100000
set_option linter.unusedVariables false
section
open Go.RowKit Go.Sort
def dropR:List ByteArray → Ens → Ens
 | [],d=>d
 | t :: ts,d=>dropR ts (withE t nulO d true)
def SD (lo bo:Nat) (W:World) (y:Nat):Prop:=lo ≤ y ∧ y < W.heap.size ∧ y ≠ bo
set_option maxHeartbeats 4000000 in
theorem rDropC (n:Int) (b:List Int) (l:Obs) (d:Ens) (ks:List ByteArray) (AK:Option Addr) (cK:Nat) (S:Nat → Prop) (w:World) (c0 c1 c2 c3 c4:Value) (hx:ObR w S (.mk 7 n b l d) c0 c1 c2 c3 c4) (hS:∀ g,S g → g < w.heap.size)
  (hK:KeysV w AK ks) (hkl:ks.length ≤ 1000) (hok:okO (.mk 7 n b l d)) (hdl:d.len ≤ 90000000) :
  Calls Tryz.prog 59 #[.agg #[c0,c1,c2,c3,c4],.slice AK ks.length cK] w (CpP w (.mk 7 n b l (dropR ks d))):=by
 have hx0:=hx
 obtain ⟨k,nn,A2,m2,d2,A3,m3,d3,A4,m4,d4,rfl,rfl,rfl,rfl,rfl⟩:=hx.form
 have hk7:k = 7:=by unfold ObR at hx;have:=hx.1;injection this
 subst hk7
 have hb1:=(Below.refl w.heap.size w).alloc (Nat.le_refl _) (.cells #[.int .i64 7,.int .i64 nn,.slice A2 m2 d2,.slice A3 m3 d3,.slice A4 m4 d4] 27)
 have hn1:=heap_alloc_new w (.cells #[.int .i64 7,.int .i64 nn,.slice A2 m2 d2,.slice A3 m3 d3,.slice A4 m4 d4] 27)
 obtain ⟨W1,hW1⟩:∃ W1,w.alloc (.cells #[.int .i64 7,.int .i64 nn,.slice A2 m2 d2,.slice A3 m3 d3,.slice A4 m4 d4] 27) = W1:=⟨_,rfl⟩
 have hs1:W1.heap.size = w.heap.size + 1:=by rw [← hW1];simp
 rw [hW1] at hb1 hn1
 have hb0:=(Below.refl W1.heap.size W1).alloc (Nat.le_refl _) (.cells #[.int .i64 0,.int .i64 0,.slice none 0 0,.slice none 0 0,.slice none 0 0] 27)
 have hn0:=heap_alloc_new W1 (.cells #[.int .i64 0,.int .i64 0,.slice none 0 0,.slice none 0 0,.slice none 0 0] 27)
 obtain ⟨W0,hW0⟩:∃ W0,W1.alloc (.cells #[.int .i64 0,.int .i64 0,.slice none 0 0,.slice none 0 0,.slice none 0 0] 27) = W0:=⟨_,rfl⟩
 rw [hW0] at hb0 hn0
 rw [hs1] at hn0
 have hbx:=(hb0.block _ (row_lt _ _ _ hn1)).trans hn1
 have hbw:=hb1.trans (hb0.mono hb1.size)
 have HCY:=lH (copyC _ (.mk 7 n b l d) (Nat.le_refl _) hok S W0 _ _ _ _ _ (ObR.keep (fun y hy=>hbw.block y (hS y hy)) (fun _ h=>h) _ hx0) (fun y hy=>Nat.lt_of_lt_of_le (hS y hy) hbw.size))
 have HBW:=lH hbw
 have HBX:=lH hbx
 have HRZ:=lH hn0
 have HW1:=lH hW1
 have HW0:=lH hW0
 have HKV:=lH hK
 have HDL:=lH hdl
 have HHS:=lH (fun W'=>hasC 7 (.int .i64 nn) (.slice A2 m2 d2) (.slice A3 m3 d3) (.slice A4 m4 d4) W')
 have q0:=cell_of_row W0 w.heap.size 0 _ _ (0,0) hbx
 have q1:=cell_of_row W0 w.heap.size 1 _ _ (0,0) hbx
 have q2:=cell_of_row W0 w.heap.size 2 _ _ (0,0) hbx
 have q3:=cell_of_row W0 w.heap.size 3 _ _ (0,0) hbx
 have q4:=cell_of_row W0 w.heap.size 4 _ _ (0,0) hbx
 have hz0:w.heap.size + 2 ≤ W0.heap.size:=by have:=row_lt _ _ _ hn0;omega
 have HZ0:=lH hz0
 obtain ⟨N,hN⟩:∃ N,ks.length = N:=⟨_,rfl⟩
 have HN:=lH hN
 have HNB:Hid (N ≤ 1000):=lH (by omega)
 obtain ⟨R,hR⟩:∃ R,dropR ks d = R:=⟨_,rfl⟩
 have HR:=lH hR
 rw [hN,hR]
 clear hx hx0 hb1 hn1 hW1 hs1 hb0 hn0 hW0 hbx hbw hK hkl hok hdl hS hz0 hN hR
 go_enter Tryz.func59,Tryz.ntmps59
 go_upto_region 1 with fail
 rw [HW1.out,HW0.out]
 go_upto_region 2 with (first
  | (go_at_call 37;refine HCY.out.mono ?_;(rintro r w2 ⟨e0,e1,e2,e3,e4,hrr,hob,hb2⟩);subst hrr;obtain ⟨k5,n5,B2,l2,f2,B3,l3,f3,B4,l4,f4,rfl,rfl,rfl,rfl,rfl⟩:=hob.form;have HOB:=lH hob;have HB2:=lH hb2;clear hob hb2))
 have hk5:k5 = 7:=by have hh:=HOB.out;unfold ObR at hh;have:=hh.1;injection this
 subst hk5
 have hb3:=(Below.refl w2.heap.size w2).alloc (Nat.le_refl _) (.cells #[.int .i64 7,.int .i64 n5,.slice B2 l2 f2,.slice B3 l3 f3,.slice B4 l4 f4] 27)
 have hn3:=heap_alloc_new w2 (.cells #[.int .i64 7,.int .i64 n5,.slice B2 l2 f2,.slice B3 l3 f3,.slice B4 l4 f4] 27)
 obtain ⟨w3,hw3⟩:∃ w3,w2.alloc (.cells #[.int .i64 7,.int .i64 n5,.slice B2 l2 f2,.slice B3 l3 f3,.slice B4 l4 f4] 27) = w3:=⟨_,rfl⟩
 rw [hw3] at hb3 hn3
 rw [hw3]
 obtain ⟨bo,hbo⟩:∃ bo,w2.heap.size = bo:=⟨_,rfl⟩
 have HBO:Hid (w.heap.size + 2 ≤ bo):=lH (by rw [← hbo];exact Nat.le_trans HZ0.out HB2.out.size)
 have hb23:=HB2.out.trans (hb3.mono HB2.out.size)
 have HB3:=lH (HBW.out.trans (hb23.mono HBW.out.size))
 have HOB3:Hid (ObR w3 (SD (w.heap.size + 2) bo w3) (.mk 7 n b l d) (.int .i64 7) (.int .i64 n5) (.slice B2 l2 f2) (.slice B3 l3 f3) (.slice B4 l4 f4)):=lH (ObR.keep (fun y hy=>hb3.block y hy.2) (fun y hy=>⟨Nat.le_trans HZ0.out hy.1,Nat.lt_of_lt_of_le hy.2 hb3.size,by rw [← hbo];exact Nat.ne_of_lt hy.2⟩) _ HOB.out)
 have HBX3:=lH ((hb23.block _ (row_lt _ _ _ HBX.out)).trans HBX.out)
 have HRZ3:=lH ((hb23.block _ (row_lt _ _ _ HRZ.out)).trans HRZ.out)
 rw [hbo] at hn3
 rw [hbo]
 have HN3:=lH hn3
 have hl4:l4 = d.len:=by
  have hh:=HOB.out
  unfold ObR at hh
  obtain ⟨-,-,-,-,-,-,⟨A9,c9,e9,-⟩⟩:=hh
  injection e9
 subst hl4
 clear q0 q1 q2 q3 q4 hb3 hn3 hw3 hb23 hbo
 have q0:=cell_of_row w3 w.heap.size 0 _ _ (0,0) HBX3.out
 have q1:=cell_of_row w3 w.heap.size 1 _ _ (0,0) HBX3.out
 have q2:=cell_of_row w3 w.heap.size 2 _ _ (0,0) HBX3.out
 have q3:=cell_of_row w3 w.heap.size 3 _ _ (0,0) HBX3.out
 have q4:=cell_of_row w3 w.heap.size 4 _ _ (0,0) HBX3.out
 go_upto_region 4 with (first
  | (go_at_call 82;refine (HHS.out _).mono ?_;(rintro r w4 ⟨rfl,hb4⟩);have HB4:=lH hb4;clear hb4))
 clear q0 q1 q2 q3 q4
 go_loopw [6] (fun iv wr=>∃ (i cV:Nat) (AV:Option Addr) (O:Ens),iv = .int .i64 i ∧ i ≤ N ∧ Hid (dropR (ks.drop i) O = R) ∧ Hid (O.len ≤ d.len + i) ∧ Hid (wr.heap[bo]? = some (.cells #[.int .i64 7,.int .i64 n5,.slice B2 l2 f2,.slice B3 l3 f3,.slice AV O.len cV] 27 (0,0))) ∧ Hid (wr.heap[w.heap.size + 1]? = some (.cells #[.int .i64 0,.int .i64 0,.slice none 0 0,.slice none 0 0,.slice none 0 0] 27 (0,0))) ∧ Hid (Below w.heap.size w wr) ∧ Hid (ObR wr (SD (w.heap.size + 2) bo wr) (.mk 7 n b l O) (.int .i64 7) (.int .i64 n5) (.slice B2 l2 f2) (.slice B3 l3 f3) (.slice AV O.len cV))) (fun iv _=>N - (intOf iv).toNat)
 case atStart=>exact ⟨0,f4,B4,d,rfl,Nat.zero_le _,HR,lH (Nat.le_refl _),lH ((HB4.out.block _ (row_lt _ _ _ HN3.out)).trans HN3.out),lH ((HB4.out.block _ (row_lt _ _ _ HRZ3.out)).trans HRZ3.out),lH (HB3.out.trans (HB4.out.mono HB3.out.size)),lH (ObR.keep (fun y hy=>HB4.out.block y hy.2.1) (fun y hy=>⟨hy.1,Nat.lt_of_lt_of_le hy.2.1 HB4.out.size,hy.2.2⟩) _ HOB3.out)⟩
 case round =>
  obtain ⟨i,cV,AV,O,rfl,hi,HM,HOL,HBR,HZR,HLO,HOJ⟩:=hrel
  by_cases hlt:i < N
  ·have gi:(i:Int) < N:=by omega
   have hnb:i < 1001:=by have:=HNB.out;omega
   obtain ⟨g,o,rfl,hg,hc⟩:=HKV.out (by rw [HN.out];omega)
   have hi2:i < ks.length:=by rw [HN.out];exact hlt
   obtain ⟨t,ht⟩:∃ t,ks[i]? = some t:=⟨_,List.getElem?_eq_getElem hi2⟩
   have HCE:Hid (∀ W,Below w.heap.size w W → W.cell? ⟨g,o + i,none⟩ = some (.string t)):=lH (fun W hW=>(World.cell?_of_block (a:=⟨g,o + i,none⟩) (hW.block g hg)).trans (hc i t ht))
   have hdr:ks.drop i = t :: ks.drop (i + 1):=by
    rw [List.drop_eq_getElem_cons hi2]
    rw [List.getElem?_eq_getElem hi2] at ht
    injection ht with ht
    rw [ht]
   have hm:=HM.out
   rw [hdr,dropR] at hm
   obtain ⟨O2,hO2⟩:∃ O2,withE t nulO O true = O2:=⟨_,rfl⟩
   have hwl:=withE_len t nulO O true
   rw [hO2] at hm hwl
   have HM2:=lH hm
   have HOL2:Hid (O2.len ≤ d.len + (i + 1)):=lH (by have:=HOL.out;omega)
   have hoj:=HOJ.out
   unfold ObR at hoj
   obtain ⟨-,-,hk,hn,⟨X2,y2,z2,ex2,hB⟩,⟨X3,z3,ex3,h3,hl⟩,⟨X4,z4,ex4,h4,hd⟩⟩:=hoj
   injection ex4 with ex41 ex42 ex43
   subst ex41 ex43
   have hwi:=withC t nulO O (SD (w.heap.size + 2) bo wr) (fun _=>False) wr.drew AV cV (.int .i64 0) (.int .i64 0) (.slice none 0 0) (.slice none 0 0) (.slice none 0 0) h4 (EnsV.keep (w':=wr.drew) (show EnsV wr (SD (w.heap.size + 2) bo wr) O AV cV from ⟨h4,hd⟩) (fun _ _=>rfl) (fun _ h=>h)).2 (ObR.plain (by omega) (by omega) (bytS_nil _ _)) (fun y hy=>hy.2.1) (fun y hy=>hy.elim) okO_nul (by have:=HOL.out;have:=HDL.out;have:=HNB.out;omega)
   rw [show decide (nulO.kind = 0) = true by rfl,hO2] at hwi
   have HWI:=lH hwi
   have HNEW:=lH (fun (w5:World) (A9:Option Addr) (c9:Nat) (hb:Below wr.heap.size wr w5) (hc9:O2.len ≤ c9 ∧ c9 ≤ 9223372036854775807) (hx9:0 < O2.len → ∃ g o,A9 = some ⟨g,o,none⟩ ∧ ((SD (w.heap.size + 2) bo wr g ∨ wr.heap.size ≤ g) ∧ g < w5.heap.size) ∧ EnsR w5 (fun g=>(SD (w.heap.size + 2) bo wr g ∨ wr.heap.size ≤ g) ∧ g < w5.heap.size) O2 g o)=>(show ObR (w5.setCell ⟨bo,4,none⟩ (.slice A9 O2.len c9)) (SD (w.heap.size + 2) bo (w5.setCell ⟨bo,4,none⟩ (.slice A9 O2.len c9))) (.mk 7 n b l O2) (.int .i64 7) (.int .i64 n5) (.slice B2 l2 f2) (.slice B3 l3 f3) (.slice A9 O2.len c9) from by
    have hbl:bo < wr.heap.size:=row_lt _ _ _ HBR.out
    have hsz:(w5.setCell ⟨bo,4,none⟩ (.slice A9 O2.len c9)).heap.size = w5.heap.size:=by simp [World.setCell]
    have key:∀ y,SD (w.heap.size + 2) bo wr y → (w5.setCell ⟨bo,4,none⟩ (.slice A9 O2.len c9)).heap[y]? = wr.heap[y]?:=fun y hy=>(set_blk9 w5 bo 4 y _ hy.2.2).trans (hb.block y hy.2.1)
    have keyS:∀ y,SD (w.heap.size + 2) bo wr y → SD (w.heap.size + 2) bo (w5.setCell ⟨bo,4,none⟩ (.slice A9 O2.len c9)) y:=fun y hy=>⟨hy.1,by rw [hsz];exact Nat.lt_of_lt_of_le hy.2.1 hb.size,hy.2.2⟩
    have keyN:∀ y,(SD (w.heap.size + 2) bo wr y ∨ wr.heap.size ≤ y) ∧ y < w5.heap.size → y ≠ bo ∧ SD (w.heap.size + 2) bo (w5.setCell ⟨bo,4,none⟩ (.slice A9 O2.len c9)) y:=fun y hy=>by
     have hbo:=HBO.out
     rcases hy.1 with h | h
     ·exact ⟨h.2.2,keyS y h⟩
     ·exact ⟨by omega,by omega,by rw [hsz];exact hy.2,by omega⟩
    have hoj:=HOJ.out
    unfold ObR at hoj ⊢
    obtain ⟨e0,e1,hk,hn,⟨X2,y2,z2,ex2,hB⟩,⟨X3,z3,ex3,h3,hl⟩,-⟩:=hoj
    refine ⟨e0,e1,hk,hn,⟨X2,y2,z2,ex2,hB.keep key keyS⟩,⟨X3,z3,ex3,h3,fun h0=>?_⟩,⟨A9,c9,rfl,hc9,fun h0=>?_⟩⟩
    ·obtain ⟨g,o,e,hg,hr⟩:=hl h0
     exact ⟨g,o,e,keyS g hg,ObsR.keep key keyS l g o (keyS g hg) hg hr⟩
    ·obtain ⟨g,o,e,hg,hr⟩:=hx9 h0
     exact ⟨g,o,e,(keyN g hg).2,EnsR.keep (fun y hy=>set_blk9 w5 bo 4 y _ (keyN y hy).1) (fun y hy=>(keyN y hy).2) O2 g o (keyN g hg).2 hg hr⟩))
   clear hc ht hdr hm hO2 hwl hk hn hB h3 hl h4 hd hwi hg ex2 ex3 ex42 hi2
   have s0:wr.drew.cell? ⟨bo,4,none⟩ = some (.slice AV O.len cV):=cell_of_row wr bo 4 _ _ (0,0) HBR.out
   have s1:=HCE.out wr.drew HLO.out.drew
   go_upto_region 6 with fail
   refine wp_region_heldR (fun W=>W.cell? ⟨bo,4,none⟩ = some (.slice AV O.len cV) ∧ W.cell? ⟨g,o + i,none⟩ = some (.string t)) 9 (by kernel_rfl) ⟨s0,s1⟩ (fun hHeld=>?_)
   refine tkQ 0 ?_
   try simp only [Act.put,aS2,aS0,aS1]
   refine tkQ 1 ?_
   try simp only [Act.put,aS2,aS0,aS1]
   refine tkQ 2 ?_
   try simp only [Act.put,aS2,aS0,aS1]
   refine tkQ 3 ?_
   try simp only [Act.put,aS2,aS0,aS1]
   refine tkQ 4 ?_
   try simp only [Act.put,aS2,aS0,aS1]
   refine tkQ 5 ?_
   try simp only [Act.put,aS2,aS0,aS1]
   refine tkQ 6 ?_
   try simp only [Act.put,aS2,aS0,aS1]
   refine wpAnyR_step 7 rfl (by kernel_rfl) (fun K hK=>?_)
   go_simp
   go_at_call 83
   refine HWI.out.mono ?_
   rintro r w5 ⟨A9,c9,rfl,hc9,hx9,hb9⟩
   have hb9':=(Below.refl wr.heap.size wr).drew.trans hb9
   have HOJ9:=lH (HNEW.out w5 A9 c9 hb9' hc9 hx9)
   have hrow5:=(hb9'.block bo (row_lt _ _ _ HBR.out)).trans HBR.out
   have HBR9:Hid ((w5.setCell ⟨bo,4,none⟩ (.slice A9 O2.len c9)).heap[bo]? = some (.cells #[.int .i64 7,.int .i64 n5,.slice B2 l2 f2,.slice B3 l3 f3,.slice A9 O2.len c9] 27 (0,0))):=lH (heap_set w5 bo 4 (.slice A9 O2.len c9) [.int .i64 7,.int .i64 n5,.slice B2 l2 f2,.slice B3 l3 f3,.slice AV O.len cV] _ hrow5)
   have HZR9:Hid ((w5.setCell ⟨bo,4,none⟩ (.slice A9 O2.len c9)).heap[w.heap.size + 1]? = some (.cells #[.int .i64 0,.int .i64 0,.slice none 0 0,.slice none 0 0,.slice none 0 0] 27 (0,0))):=lH ((set_blk9 w5 bo 4 (w.heap.size + 1) _ (by have:=HBO.out;omega)).trans ((hb9'.block _ (row_lt _ _ _ HZR.out)).trans HZR.out))
   have hlo5:=HLO.out.trans (hb9'.mono HLO.out.size)
   have HLO9:Hid (Below w.heap.size w (w5.setCell ⟨bo,4,none⟩ (.slice A9 O2.len c9))):=lH (hlo5.setCell (p:=⟨bo,4,none⟩) (by have:=HBO.out;show w.heap.size ≤ bo;omega) _)
   have fz:w5.frozen? ⟨bo,4,none⟩ = false:=by simp [World.frozen?,hrow5]
   have p0:=cell_of_row w5 bo 4 _ _ (0,0) hrow5
   have p1:=HCE.out w5 hlo5
   have hst:=And.intro p0 p1
   clear hb9 hb9' hc9 hx9 hrow5 hlo5
   go_wp2_with fail
   refine hK.out _ _ hst (fun hHeld=>?_)
   clear hK K
   try simp only [Act.put,aS2,aS0,aS1]
   refine tkQ 8 ?_
   try simp only [Act.put,aS2,aS0,aS1]
   refine wpAnyR_last rfl (by kernel_rfl) (by kernel_rfl) (fun K hK=>?_)
   go_simp
   refine hK.out _ _ ?_
   clear hK K
   refine NoPanic.normal ?_
   go_wp2_with fail
   go_roundw
   case rel=>exact ⟨i + 1,c9,A9,O2,by go_num,by omega,HM2,HOL2,HBR9,HZR9,HLO9,HOJ9⟩
   case measure=>simp [intOf];omega
  ·obtain rfl:i = N:=by omega
   have hm:=HM.out
   rw [List.drop_eq_nil_of_le (Nat.le_of_eq HN.out),dropR] at hm
   subst hm
   have g0:=cell_of_row wr bo 0 _ _ (0,0) HBR.out
   have g1:=cell_of_row wr bo 1 _ _ (0,0) HBR.out
   have g2:=cell_of_row wr bo 2 _ _ (0,0) HBR.out
   have g3:=cell_of_row wr bo 3 _ _ (0,0) HBR.out
   have g4:=cell_of_row wr bo 4 _ _ (0,0) HBR.out
   obtain ⟨r0,r1,r2,r3,r4,r5⟩:=zero_cells HZR.out
   go_wp2_with fail
   refine bodyPost_ret (results_cell_row rfl _ _ (w.heap.size + 1) 27 _ (0,0) _ rfl (set5_row HZR.out) Tryz.underlying27 rfl (by kernel_rfl)) rfl ?_
   exact ⟨_,_,_,_,_,rfl,ObR.keep (fun y hy=>heap_set5 (by have:=hy.1;omega)) (fun y hy=>⟨by have:=hy.1;omega,by rw [size_set5];exact hy.2.1⟩) _ HOJ.out,below_set5 HLO.out (Nat.le_succ _)⟩
end
section
open Go.RowKit
theorem drop_one_cons (s t:ByteArray) (y:Ob) (ys:Ens):dropE [s] (.cons t y ys) = if t = s then dropE [s] ys else .cons t y (dropE [s] ys):=by
 unfold dropE
 rw [Ens.toL,List.filter_cons]
 by_cases h:t = s
 ·subst h
  simp [anyK]
 ·have h2:¬ s = t:=fun e=>h e.symm
  simp [anyK,h,h2,Ens.ofL]
theorem with_drop (s:ByteArray):∀ d:Ens,withE s nulO d true = dropE [s] d
 | .nil=>by rw [withE];simp [dropE,Ens.toL,Ens.ofL]
 | .cons t y ys=>by
  rw [drop_one_cons,← with_drop s ys,withE]
  simp
theorem drop_both (s:ByteArray) (d:Ens):dropR [s] d = dropE [s] d:=with_drop s d
end
end Go.Proofs.YtpomkhcobpihmaaGreat
