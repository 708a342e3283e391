/- ParseRefs: whole numbers in a row, and the words between: references are just those of three, the others stay numbers. No condition on the input. -/
import Derived.Test.YtpomkhcobpihmaaGreatPar42
import Derived.Test.YtpomkhcobpihmaaGreatPar43
namespace Go.Proofs.YtpomkhcobpihmaaGreat
open Go.ChangeShapes Go.WideShapes Go.ChangeAt Go.RowKit Go.Deep
set_option linter.unusedVariables false
set_option maxRecDepth 100000
theorem lit48:strZ ⟨#[48]⟩ = [48]:=rfl
theorem lit82:strZ ⟨#[82]⟩ = [82]:=rfl
theorem WB.drew_ {w wr:World} {g:Nat} {v:Value} (h:WB w wr g v):WB w wr.drew g v:=⟨h.low.drew,h.row,h.ge,h.lt⟩
theorem refs_out1 (A:Option Addr) (n c:Nat) (B:Option Addr) (k d:Nat) (w:World) (hn:n ≤ 9223372036854775807) (h:60 < n) :
  Calls Tryz.prog 6 #[.slice A n c,.slice B k d] w fun e w'=>e = .returned (.bool true) ∧ Below w.heap.size w w':=by
 have HAW:=lH (awake_any12 w)
 have g1:(n:Int) > 60:=by omega
 go_enter Tryz.func6,Tryz.ntmps6
 go_wp2_with (first
  | (go_at_call 8;refine HAW.out.mono ?_;(rintro e w1 ⟨rfl,hb1⟩)))
 go_ret
 exact ⟨rfl,hb1⟩
theorem refs_out2 (A:Option Addr) (n c:Nat) (B:Option Addr) (k d:Nat) (w:World) (hk:k ≤ 9223372036854775807) (hn:n ≤ 60) (h:60 < k) :
  Calls Tryz.prog 6 #[.slice A n c,.slice B k d] w fun e w'=>e = .returned (.bool true) ∧ Below w.heap.size w w':=by
 have HAW:=lH (awake_any12 w)
 have g1:¬ (n:Int) > 60:=by omega
 have g2:(k:Int) > 60:=by omega
 go_enter Tryz.func6,Tryz.ntmps6
 go_wp2_with (first
  | (go_at_call 8;refine HAW.out.mono ?_;(rintro e w1 ⟨rfl,hb1⟩)))
 go_ret
 exact ⟨rfl,hb1⟩
set_option maxHeartbeats 8000000 in
theorem refs_main (A:Option Addr) (n c:Nat) (us:List Int) (B:Option Addr) (k d:Nat) (bs:List Int) (w:World) (hz:Sht w w.heap.size A n c us) (hy:Byt w w.heap.size B k d bs) (hn:n ≤ 60) (hk:k ≤ 60) :
  Calls Tryz.prog 6 #[.slice A n c,.slice B k d] w fun e w'=>e = .returned (.bool true) ∧ Below w.heap.size w w':=by
 have HAW:=lH (awake_any12 w)
 have HAR:=lH arr0C
 have HZ:=lH hz
 have HY:=lH hy
 have HNN:=lH hn
 have g1:¬ (n:Int) > 60:=by omega
 have g2:¬ (k:Int) > 60:=by omega
 clear hz hy
 go_enter Tryz.func6,Tryz.ntmps6
 go_upto_region 7 with (first
  | (go_at_call 8;refine HAW.out.mono ?_;(rintro e w1 ⟨rfl,hb1⟩);have HB1:=lH hb1;clear hb1)
  | (go_at_call 18;refine (HAR.out _).mono ?_;(rintro e w2 ⟨rfl,hb2⟩);have HB2:=lH (HB1.out.trans (hb2.mono HB1.out.size));clear hb2))
 have hb3:=(Below.refl w2.heap.size w2).alloc (Nat.le_refl _) (.cells #[.int .i64 6,.int .i64 0,.slice none 0 0,.slice none 0 0,.slice none 0 0] 27)
 have hn3:=heap_alloc_new w2 (.cells #[.int .i64 6,.int .i64 0,.slice none 0 0,.slice none 0 0,.slice none 0 0] 27)
 obtain ⟨w3,hw3⟩:∃ w3,w2.alloc (.cells #[.int .i64 6,.int .i64 0,.slice none 0 0,.slice none 0 0,.slice none 0 0] 27) = w3:=⟨_,rfl⟩
 have hs3:w3.heap.size = w2.heap.size + 1:=by rw [← hw3];simp
 rw [hw3] at hb3 hn3
 rw [hw3]
 obtain ⟨g,hg⟩:∃ g,w2.heap.size = g:=⟨_,rfl⟩
 have hgw:w.heap.size ≤ g:=by rw [← hg];exact HB2.out.size
 have HWB:Hid (WB w w3 g (.slice none 0 0)):=lH ⟨HB2.out.trans (hb3.mono HB2.out.size),by rw [← hg];exact hn3,hgw,by omega⟩
 have HGW:=lH hgw
 rw [hg]
 clear hb3 hn3 hw3 hs3 hg hgw g1 g2 HB1 HB2 HAW HAR
 go_upto_region 8 with fail
 go_loopw [5,7,8,9] (fun s5 s7 s8 s9 wr=>∃ (i cV:Nat) (AV:Option Addr) (S:ByteArray),s5 = .string S ∧ s7 = .int .i64 i ∧ i ≤ n ∧ Hid (strZ S = 91 :: rzL (itms us bs i)) ∧ Hid (WB w wr g (.slice AV i cV)) ∧ Hid (OwnO noneT wr (g + 1) (.slice AV i cV) (foL .nil (itms us bs i)))) (fun _ s7 _ _ _=>n - (intOf s7).toNat)
 case atStart=>exact ⟨0,0,none,⟨#[91]⟩,rfl,rfl,Nat.zero_le _,lH rfl,HWB,lH (OwnO.nil _ _ _)⟩
 case round =>
  obtain ⟨i,cV,AV,S,rfl,rfl,hin,HS,HD,HOW⟩:=hrel
  have hol:=foL_len (itms us bs i) .nil
  rw [itms_len] at hol
  have hol:(foL .nil (itms us bs i)).len = i:=by rw [hol];simp [Obs.len]
  have hsz:S.size ≤ 800:=by
   have h1:=strZ_len S
   have h2:=rzL_le (itms us bs i) (itms_ok us bs i)
   rw [itms_len] at h2
   rw [HS.out,List.length_cons] at h1
   omega
  by_cases hi:i < n
  ·have gi:(i:Int) < n:=by omega
   have HIN:=lH hi
   obtain ⟨b,o,rfl,hlt,hcl⟩:=HZ.out.cell (by omega)
   have hrg:=HZ.out.rng _ (getD_mem us i (by rw [HZ.out.len];exact hi))
   obtain ⟨U,hU⟩:∃ U:Nat,us.getD i 0 = (U:Int):=⟨(us.getD i 0).toNat,by omega⟩
   have hce0:∀ W,Below w.heap.size w W → W.cell? ⟨b,o + i,none⟩ = some (.int .u16 (U:Int)):=fun W hW=>(hW.cell (p:=⟨b,o + i,none⟩) hlt).trans (by rw [hcl i hi,hU])
   have HCE:=lH hce0
   have hUb:U < 65536:=by rw [hU] at hrg;omega
   have hc1:=hce0 wr HD.out.low
   obtain ⟨N,hN⟩:∃ N,U % 9 = N:=⟨_,rfl⟩
   have hN8:N ≤ 8:=by omega
   have hr1:IntKind.i64.wrap (U:Int) = (U:Int):=IntWalk.i64_in _ (by omega)
   have hr2:Int.tmod (U:Int) 9 = (N:Int):=by rw [Int.tmod_eq_emod_of_nonneg (by omega)];omega
   have hxe:(U:Int) % 9 = (N:Int):=by omega
   obtain ⟨t,ht⟩:∃ t,itm us bs i = t:=⟨_,rfl⟩
   have htn:t.n = (N:Int):=by rw [← ht];show (us.getD i 0) % 9 = _;rw [hU];exact hxe
   have htr:t.r = decide (32768 ≤ U ∧ 0 < N):=by
    rw [← ht]
    show decide (32768 ≤ us.getD i 0 ∧ 0 < us.getD i 0 % 9) = _
    rw [hU,hxe]
    exact decide_eq_decide.2 (by omega)
   have htg:t.g = gapZ (gix bs i):=by rw [← ht];rfl
   have hsn:=itms_succ us bs i
   rw [ht] at hsn
   have HSN:=lH hsn
   have HTN:=lH htn
   have HTR:=lH htr
   have HTG:=lH htg
   have HOL:=lH hol
   have HU:=lH hUb
   have HN8:=lH hN8
   clear hcl hrg hU hN ht htn htr htg hsn hlt hol hce0 hxe
   go_upto_region 12 with fail
   clear hr1 hr2 hN8 hUb
   have hN8:=HN8.out
   by_cases hk2:i < k
   ·have gk:(i:Int) < k:=by omega
    obtain ⟨b2,o2,rfl,hlt2,hcl2⟩:=HY.out.cell (by omega)
    have hrg2:=HY.out.rng _ (getD_mem bs i (by rw [HY.out.len];exact hk2))
    obtain ⟨X,hX⟩:∃ X:Nat,bs.getD i 0 = (X:Int):=⟨(bs.getD i 0).toNat,by omega⟩
    have hXb:X < 256:=by rw [hX] at hrg2;omega
    obtain ⟨q,hq⟩:∃ q,X % 4 = q:=⟨_,rfl⟩
    have hq4:q < 4:=by omega
    have ha3:bits .and .u8 (X:Int) 3 = (q:Int):=by rw [and3r ⟨X,hXb⟩];dsimp only;rw [hq]
    have hgx:gix bs i = q:=by unfold gix;rw [if_pos (by rw [HY.out.len];exact hk2),hX];omega
    obtain ⟨GS,hbh,hbs⟩:∃ GS:ByteArray,([.string ⟨#[32]⟩,.string ⟨#[10]⟩,.string ⟨#[37,120,13]⟩,.string ⟨#[32,32]⟩]:List Value)[q]? = some (.string GS) ∧ strZ GS = gapZ q:=by
     obtain rfl | rfl | rfl | rfl:q = 0 ∨ q = 1 ∨ q = 2 ∨ q = 3:=by omega
     ·exact ⟨_,rfl,rfl⟩
     ·exact ⟨_,rfl,rfl⟩
     ·exact ⟨_,rfl,rfl⟩
     ·exact ⟨_,rfl,rfl⟩
    have HG:Hid (strZ GS = t.g):=lH (by rw [HTG.out,hgx];exact hbs)
    have hbg:([.string ⟨#[32]⟩,.string ⟨#[10]⟩,.string ⟨#[37,120,13]⟩,.string ⟨#[32,32]⟩]:List Value)[q]'hq4 = .string GS:=by
     have h:=List.getElem?_eq_getElem (l:=([.string ⟨#[32]⟩,.string ⟨#[10]⟩,.string ⟨#[37,120,13]⟩,.string ⟨#[32,32]⟩]:List Value)) (i:=q) hq4
     rw [hbh] at h
     injection h with h
     exact h.symm
    have hb4:=(Below.refl wr.heap.size wr).alloc (Nat.le_refl _) (.cells #[.string ⟨#[32]⟩,.string ⟨#[10]⟩,.string ⟨#[37,120,13]⟩,.string ⟨#[32,32]⟩] 9)
    have hc2:wr.cell? ⟨b2,o2 + i,none⟩ = some (.int .u8 (X:Int)):=(HD.out.low.cell (p:=⟨b2,o2 + i,none⟩) hlt2).trans (by rw [hcl2 i hk2,hX])
    have hc3:(wr.alloc (.cells #[.string ⟨#[32]⟩,.string ⟨#[10]⟩,.string ⟨#[37,120,13]⟩,.string ⟨#[32,32]⟩] 9)).cell? ⟨b2,o2 + i,none⟩ = some (.int .u8 (X:Int)):=(hb4.cell (p:=⟨b2,o2 + i,none⟩) (Nat.lt_of_lt_of_le hlt2 HD.out.low.size)).trans hc2
    clear hcl2 hrg2 hX hq hgx hbs hlt2
    go_upto_region 14 with fail
    obtain ⟨w4,hw4⟩:∃ w4,wr.alloc (.cells #[.string ⟨#[32]⟩,.string ⟨#[10]⟩,.string ⟨#[37,120,13]⟩,.string ⟨#[32,32]⟩] 9) = w4:=⟨_,rfl⟩
    rw [hw4] at hb4
    rw [hw4]
    have HD4:=lH (HD.out.low_ hb4)
    have HOW4:=lH (HOW.out.low hb4)
    clear hb4 hw4 hc2 hc3 ha3 hbg hbh hq4 hXb gk HD HOW hc1
    clear hk2
    have sG:GS.size ≤ 3:=by
     have h1:=strZ_len GS
     rw [HG.out,HTG.out] at h1
     rcases gapZ_ok (gix bs i) with e | e | e | e <;> rw [e] at h1 <;> simp at h1 <;> omega
    obtain ⟨TS,hTS⟩:∃ TS:ByteArray,(⟨(textB (N:Int) true).toArray⟩:ByteArray) = TS:=⟨_,rfl⟩
    have HTX:=lH (fun W=>refText (N:Int) true W (by omega) (by omega))
    rw [hTS] at HTX
    have hTZ:strZ TS = [48 + (N:Int)]:=by rw [← dig_z (N:Int) (by omega) (by omega),← hTS];simp [strZ,zsB]
    have sT:TS.size ≤ 1:=by have:=strZ_len TS;rw [hTZ] at this;simp at this;omega
    have HTSZ:=lH hTZ
    clear hTS hTZ
    go_upto_region 15 with (first
     | (go_at_call 16;refine (HTX.out _).mono ?_;(rintro e w5 ⟨rfl,hb5⟩);have HD5:=lH (HD4.out.low_ hb5);have HOW5:=lH (HOW4.out.low hb5);clear hb5))
    have hc5:=HCE.out w5 HD5.out.low
    have ha:=and15 U HU.out
    by_cases hR:U < 32768
    ·rw [if_pos hR] at ha
     have htr:t.r = false:=by rw [HTR.out];exact decide_eq_false (by omega)
     have HTO:Hid (foL .nil (itms us bs (i + 1)) = (foL .nil (itms us bs i)).snoc (.mk 2 (N:Int) [] .nil .nil)):=lH (by rw [HSN.out,foL_snoc,RI.o,htr,HTN.out];rfl)
     have HZT:Hid (t.z = (48 + (N:Int)) :: t.g):=lH (by rw [RI.z,RI.mid,htr,HTN.out];rfl)
     have HI:=lH (intC (N:Int) w5.drew (by omega))
     clear htr hR HD4 HOW4 HTX
     go_upto_region 18 with fail
     refine wp_region_heldR (fun w'=>w'.cell? ⟨g,3,none⟩ = some (.slice AV i cV)) 7 (by kernel_rfl) HD5.out.drew_.at3 (fun hHeld=>?_)
     refine tkQ 0 ?_
     try simp only [Act.put,aS2,aS0,aS1]
     refine tkQ 1 ?_
     try simp only [Act.put,aS2,aS0,aS1]
     refine tkQ 2 ?_
     try simp only [Act.put,aS2,aS0,aS1]
     refine wpAnyR_step 3 rfl (by kernel_rfl) (fun K hK=>?_)
     go_simp
     go_at_call 20
     refine HI.out.mono ?_
     rintro r w6 ⟨e0,e1,e2,e3,e4,rfl,hy6,hb6⟩
     have HAP:=lH (HOW5.out.drewG.lit hb6 (.mk 2 (N:Int) [] .nil .nil) hy6 (by rw [HOL.out];have:=HNN.out;have:=HIN.out;omega) HD5.out.drew_.lt (fun _ h=>h.elim))
     have HD6:=lH (HD5.out.drew_.low_ hb6)
     clear hy6 hb6
     go_wp2_with fail
     refine hK.out _ _ HD6.out.at3 (fun hHeld=>?_)
     clear hK K
     try simp only [Act.put,aS2,aS0,aS1]
     refine wpAnyR_step 4 rfl (by kernel_rfl) (fun K hK=>?_)
     go_simp
     refine hK.out _ _ (by go_keep) (fun hHeld=>?_)
     clear hK K
     try simp only [Act.put,aS2,aS0,aS1]
     refine wpAnyR_step 5 rfl (by kernel_rfl) (fun K hK=>?_)
     obtain ⟨A7,c7,w7,hrun,ho7,hb7⟩:=HAP.out
     rw [HOL.out] at hrun ho7
     refine step_append_run9 rfl (.tmp 76) (.tmp 79) 24 rfl (.slice AV i cV) (.slice (some ⟨w6.heap.size,0,none⟩) 1 1) rfl rfl hrun ?_
     have HD7:=lH (HD6.out.step hb7)
     have fz:w7.frozen? ⟨g,3,none⟩ = false:=by (have:=HD7.out.row;simp [World.frozen?,this])
     have h73:=HD7.out.at3
     have HD8:=lH (HD7.out.put3 (.slice A7 (i + 1) c7))
     have HOW8:=lH (OwnO.keepB ho7 ((Only.refl g w7).set_ 3 (.slice A7 (i + 1) c7)) (by omega) (fun h=>h))
     rw [← HTO.out] at HOW8
     clear hrun ho7 hb7
     refine hK.out _ _ h73 (fun hHeld=>?_)
     clear hK K
     try simp only [Act.put,aS2,aS0,aS1]
     refine tkQ 6 ?_
     try simp only [Act.put,aS2,aS0,aS1]
     refine wpAnyR_last rfl (by kernel_rfl) (by kernel_rfl) (fun K hK=>?_)
     go_simp
     refine hK.out _ _ ?_
     clear hK K
     refine NoPanic.normal ?_
     go_wp2_with fail
     go_roundw
     case rel=>exact ⟨i + 1,c7,A7,_,rfl,by go_num,by have:=HIN.out;omega,lH (by
      rw [HSN.out,rzL_snoc,HZT.out]
      simp only [strZ_app,HS.out,HTSZ.out,HG.out,List.append_assoc,List.cons_append,List.nil_append]),HD8,HOW8⟩
     case measure=>have:=HIN.out;simp [intOf];omega
    ·rw [if_neg hR] at ha
     by_cases hp:0 < N
     ·have gp:(N:Int) > 0:=by omega
      have htr:t.r = true:=by rw [HTR.out];exact decide_eq_true ⟨by omega,hp⟩
      have HTO:Hid (foL .nil (itms us bs (i + 1)) = (foL .nil (itms us bs i)).snoc (.mk 9 (N:Int) [] .nil .nil)):=lH (by rw [HSN.out,foL_snoc,RI.o,htr,HTN.out];rfl)
      have HZT:Hid (t.z = (48 + (N:Int)) :: ((t.g ++ 48 :: (t.g ++ [82])) ++ t.g)):=lH (by rw [RI.z,RI.mid,htr,HTN.out];rfl)
      have HI:=lH (refC (N:Int) w5.drew (by omega))
      clear htr hR hp HD4 HOW4 HTX
      go_upto_region 17 with fail
      refine wp_region_heldR (fun w'=>w'.cell? ⟨g,3,none⟩ = some (.slice AV i cV)) 7 (by kernel_rfl) HD5.out.drew_.at3 (fun hHeld=>?_)
      refine tkQ 0 ?_
      try simp only [Act.put,aS2,aS0,aS1]
      refine tkQ 1 ?_
      try simp only [Act.put,aS2,aS0,aS1]
      refine tkQ 2 ?_
      try simp only [Act.put,aS2,aS0,aS1]
      refine wpAnyR_step 3 rfl (by kernel_rfl) (fun K hK=>?_)
      go_simp
      go_at_call 19
      refine HI.out.mono ?_
      rintro r w6 ⟨e0,e1,e2,e3,e4,rfl,hy6,hb6⟩
      have HAP:=lH (HOW5.out.drewG.lit hb6 (.mk 9 (N:Int) [] .nil .nil) hy6 (by rw [HOL.out];have:=HNN.out;have:=HIN.out;omega) HD5.out.drew_.lt (fun _ h=>h.elim))
      have HD6:=lH (HD5.out.drew_.low_ hb6)
      clear hy6 hb6
      go_wp2_with fail
      refine hK.out _ _ HD6.out.at3 (fun hHeld=>?_)
      clear hK K
      try simp only [Act.put,aS2,aS0,aS1]
      refine wpAnyR_step 4 rfl (by kernel_rfl) (fun K hK=>?_)
      go_simp
      refine hK.out _ _ (by go_keep) (fun hHeld=>?_)
      clear hK K
      try simp only [Act.put,aS2,aS0,aS1]
      refine wpAnyR_step 5 rfl (by kernel_rfl) (fun K hK=>?_)
      obtain ⟨A7,c7,w7,hrun,ho7,hb7⟩:=HAP.out
      rw [HOL.out] at hrun ho7
      refine step_append_run9 rfl (.tmp 69) (.tmp 72) 24 rfl (.slice AV i cV) (.slice (some ⟨w6.heap.size,0,none⟩) 1 1) rfl rfl hrun ?_
      have HD7:=lH (HD6.out.step hb7)
      have fz:w7.frozen? ⟨g,3,none⟩ = false:=by (have:=HD7.out.row;simp [World.frozen?,this])
      have h73:=HD7.out.at3
      have HD8:=lH (HD7.out.put3 (.slice A7 (i + 1) c7))
      have HOW8:=lH (OwnO.keepB ho7 ((Only.refl g w7).set_ 3 (.slice A7 (i + 1) c7)) (by omega) (fun h=>h))
      rw [← HTO.out] at HOW8
      clear hrun ho7 hb7
      refine hK.out _ _ h73 (fun hHeld=>?_)
      clear hK K
      try simp only [Act.put,aS2,aS0,aS1]
      refine tkQ 6 ?_
      try simp only [Act.put,aS2,aS0,aS1]
      refine wpAnyR_last rfl (by kernel_rfl) (by kernel_rfl) (fun K hK=>?_)
      go_simp
      refine hK.out _ _ ?_
      clear hK K
      refine NoPanic.normal ?_
      go_wp2_with fail
      go_roundw
      case rel=>exact ⟨i + 1,c7,A7,_,rfl,by go_num,by have:=HIN.out;omega,lH (by
       rw [HSN.out,rzL_snoc,HZT.out]
       simp only [strZ_app,HS.out,HTSZ.out,HG.out,lit48,lit82,List.append_assoc,List.cons_append,List.nil_append]),HD8,HOW8⟩
      case measure=>have:=HIN.out;simp [intOf];omega
     ·have gp:¬ (N:Int) > 0:=by omega
      have htr:t.r = false:=by rw [HTR.out];exact decide_eq_false (by omega)
      have HTO:Hid (foL .nil (itms us bs (i + 1)) = (foL .nil (itms us bs i)).snoc (.mk 2 (N:Int) [] .nil .nil)):=lH (by rw [HSN.out,foL_snoc,RI.o,htr,HTN.out];rfl)
      have HZT:Hid (t.z = (48 + (N:Int)) :: t.g):=lH (by rw [RI.z,RI.mid,htr,HTN.out];rfl)
      have HI:=lH (intC (N:Int) w5.drew (by omega))
      clear htr hR hp HD4 HOW4 HTX
      go_upto_region 18 with fail
      refine wp_region_heldR (fun w'=>w'.cell? ⟨g,3,none⟩ = some (.slice AV i cV)) 7 (by kernel_rfl) HD5.out.drew_.at3 (fun hHeld=>?_)
      refine tkQ 0 ?_
      try simp only [Act.put,aS2,aS0,aS1]
      refine tkQ 1 ?_
      try simp only [Act.put,aS2,aS0,aS1]
      refine tkQ 2 ?_
      try simp only [Act.put,aS2,aS0,aS1]
      refine wpAnyR_step 3 rfl (by kernel_rfl) (fun K hK=>?_)
      go_simp
      go_at_call 20
      refine HI.out.mono ?_
      rintro r w6 ⟨e0,e1,e2,e3,e4,rfl,hy6,hb6⟩
      have HAP:=lH (HOW5.out.drewG.lit hb6 (.mk 2 (N:Int) [] .nil .nil) hy6 (by rw [HOL.out];have:=HNN.out;have:=HIN.out;omega) HD5.out.drew_.lt (fun _ h=>h.elim))
      have HD6:=lH (HD5.out.drew_.low_ hb6)
      clear hy6 hb6
      go_wp2_with fail
      refine hK.out _ _ HD6.out.at3 (fun hHeld=>?_)
      clear hK K
      try simp only [Act.put,aS2,aS0,aS1]
      refine wpAnyR_step 4 rfl (by kernel_rfl) (fun K hK=>?_)
      go_simp
      refine hK.out _ _ (by go_keep) (fun hHeld=>?_)
      clear hK K
      try simp only [Act.put,aS2,aS0,aS1]
      refine wpAnyR_step 5 rfl (by kernel_rfl) (fun K hK=>?_)
      obtain ⟨A7,c7,w7,hrun,ho7,hb7⟩:=HAP.out
      rw [HOL.out] at hrun ho7
      refine step_append_run9 rfl (.tmp 76) (.tmp 79) 24 rfl (.slice AV i cV) (.slice (some ⟨w6.heap.size,0,none⟩) 1 1) rfl rfl hrun ?_
      have HD7:=lH (HD6.out.step hb7)
      have fz:w7.frozen? ⟨g,3,none⟩ = false:=by (have:=HD7.out.row;simp [World.frozen?,this])
      have h73:=HD7.out.at3
      have HD8:=lH (HD7.out.put3 (.slice A7 (i + 1) c7))
      have HOW8:=lH (OwnO.keepB ho7 ((Only.refl g w7).set_ 3 (.slice A7 (i + 1) c7)) (by omega) (fun h=>h))
      rw [← HTO.out] at HOW8
      clear hrun ho7 hb7
      refine hK.out _ _ h73 (fun hHeld=>?_)
      clear hK K
      try simp only [Act.put,aS2,aS0,aS1]
      refine tkQ 6 ?_
      try simp only [Act.put,aS2,aS0,aS1]
      refine wpAnyR_last rfl (by kernel_rfl) (by kernel_rfl) (fun K hK=>?_)
      go_simp
      refine hK.out _ _ ?_
      clear hK K
      refine NoPanic.normal ?_
      go_wp2_with fail
      go_roundw
      case rel=>exact ⟨i + 1,c7,A7,_,rfl,by go_num,by have:=HIN.out;omega,lH (by
       rw [HSN.out,rzL_snoc,HZT.out]
       simp only [strZ_app,HS.out,HTSZ.out,HG.out,List.append_assoc,List.cons_append,List.nil_append]),HD8,HOW8⟩
      case measure=>have:=HIN.out;simp [intOf];omega
   ·have gk:¬ (i:Int) < k:=by omega
    have hgx:gix bs i = 0:=by unfold gix;rw [if_neg (by rw [HY.out.len];exact hk2)]
    have hg0:strZ ⟨#[32]⟩ = t.g:=by rw [HTG.out,hgx];rfl
    go_upto_region 14 with fail
    obtain ⟨GS,hGS⟩:∃ GS:ByteArray,⟨#[32]⟩ = GS:=⟨_,rfl⟩
    rw [hGS] at hg0
    simp only [hGS]
    have HG:=lH hg0
    obtain ⟨w4,hw4⟩:∃ w4,wr = w4:=⟨_,rfl⟩
    subst hw4
    have HD4:=HD
    have HOW4:=HOW
    clear hg0 hGS hgx gk HD HOW hc1
    clear hk2
    have sG:GS.size ≤ 3:=by
     have h1:=strZ_len GS
     rw [HG.out,HTG.out] at h1
     rcases gapZ_ok (gix bs i) with e | e | e | e <;> rw [e] at h1 <;> simp at h1 <;> omega
    obtain ⟨TS,hTS⟩:∃ TS:ByteArray,(⟨(textB (N:Int) true).toArray⟩:ByteArray) = TS:=⟨_,rfl⟩
    have HTX:=lH (fun W=>refText (N:Int) true W (by omega) (by omega))
    rw [hTS] at HTX
    have hTZ:strZ TS = [48 + (N:Int)]:=by rw [← dig_z (N:Int) (by omega) (by omega),← hTS];simp [strZ,zsB]
    have sT:TS.size ≤ 1:=by have:=strZ_len TS;rw [hTZ] at this;simp at this;omega
    have HTSZ:=lH hTZ
    clear hTS hTZ
    go_upto_region 15 with (first
     | (go_at_call 16;refine (HTX.out _).mono ?_;(rintro e w5 ⟨rfl,hb5⟩);have HD5:=lH (HD4.out.low_ hb5);have HOW5:=lH (HOW4.out.low hb5);clear hb5))
    have hc5:=HCE.out w5 HD5.out.low
    have ha:=and15 U HU.out
    by_cases hR:U < 32768
    ·rw [if_pos hR] at ha
     have htr:t.r = false:=by rw [HTR.out];exact decide_eq_false (by omega)
     have HTO:Hid (foL .nil (itms us bs (i + 1)) = (foL .nil (itms us bs i)).snoc (.mk 2 (N:Int) [] .nil .nil)):=lH (by rw [HSN.out,foL_snoc,RI.o,htr,HTN.out];rfl)
     have HZT:Hid (t.z = (48 + (N:Int)) :: t.g):=lH (by rw [RI.z,RI.mid,htr,HTN.out];rfl)
     have HI:=lH (intC (N:Int) w5.drew (by omega))
     clear htr hR HD4 HOW4 HTX
     go_upto_region 18 with fail
     refine wp_region_heldR (fun w'=>w'.cell? ⟨g,3,none⟩ = some (.slice AV i cV)) 7 (by kernel_rfl) HD5.out.drew_.at3 (fun hHeld=>?_)
     refine tkQ 0 ?_
     try simp only [Act.put,aS2,aS0,aS1]
     refine tkQ 1 ?_
     try simp only [Act.put,aS2,aS0,aS1]
     refine tkQ 2 ?_
     try simp only [Act.put,aS2,aS0,aS1]
     refine wpAnyR_step 3 rfl (by kernel_rfl) (fun K hK=>?_)
     go_simp
     go_at_call 20
     refine HI.out.mono ?_
     rintro r w6 ⟨e0,e1,e2,e3,e4,rfl,hy6,hb6⟩
     have HAP:=lH (HOW5.out.drewG.lit hb6 (.mk 2 (N:Int) [] .nil .nil) hy6 (by rw [HOL.out];have:=HNN.out;have:=HIN.out;omega) HD5.out.drew_.lt (fun _ h=>h.elim))
     have HD6:=lH (HD5.out.drew_.low_ hb6)
     clear hy6 hb6
     go_wp2_with fail
     refine hK.out _ _ HD6.out.at3 (fun hHeld=>?_)
     clear hK K
     try simp only [Act.put,aS2,aS0,aS1]
     refine wpAnyR_step 4 rfl (by kernel_rfl) (fun K hK=>?_)
     go_simp
     refine hK.out _ _ (by go_keep) (fun hHeld=>?_)
     clear hK K
     try simp only [Act.put,aS2,aS0,aS1]
     refine wpAnyR_step 5 rfl (by kernel_rfl) (fun K hK=>?_)
     obtain ⟨A7,c7,w7,hrun,ho7,hb7⟩:=HAP.out
     rw [HOL.out] at hrun ho7
     refine step_append_run9 rfl (.tmp 76) (.tmp 79) 24 rfl (.slice AV i cV) (.slice (some ⟨w6.heap.size,0,none⟩) 1 1) rfl rfl hrun ?_
     have HD7:=lH (HD6.out.step hb7)
     have fz:w7.frozen? ⟨g,3,none⟩ = false:=by (have:=HD7.out.row;simp [World.frozen?,this])
     have h73:=HD7.out.at3
     have HD8:=lH (HD7.out.put3 (.slice A7 (i + 1) c7))
     have HOW8:=lH (OwnO.keepB ho7 ((Only.refl g w7).set_ 3 (.slice A7 (i + 1) c7)) (by omega) (fun h=>h))
     rw [← HTO.out] at HOW8
     clear hrun ho7 hb7
     refine hK.out _ _ h73 (fun hHeld=>?_)
     clear hK K
     try simp only [Act.put,aS2,aS0,aS1]
     refine tkQ 6 ?_
     try simp only [Act.put,aS2,aS0,aS1]
     refine wpAnyR_last rfl (by kernel_rfl) (by kernel_rfl) (fun K hK=>?_)
     go_simp
     refine hK.out _ _ ?_
     clear hK K
     refine NoPanic.normal ?_
     go_wp2_with fail
     go_roundw
     case rel=>exact ⟨i + 1,c7,A7,_,rfl,by go_num,by have:=HIN.out;omega,lH (by
      rw [HSN.out,rzL_snoc,HZT.out]
      simp only [strZ_app,HS.out,HTSZ.out,HG.out,List.append_assoc,List.cons_append,List.nil_append]),HD8,HOW8⟩
     case measure=>have:=HIN.out;simp [intOf];omega
    ·rw [if_neg hR] at ha
     by_cases hp:0 < N
     ·have gp:(N:Int) > 0:=by omega
      have htr:t.r = true:=by rw [HTR.out];exact decide_eq_true ⟨by omega,hp⟩
      have HTO:Hid (foL .nil (itms us bs (i + 1)) = (foL .nil (itms us bs i)).snoc (.mk 9 (N:Int) [] .nil .nil)):=lH (by rw [HSN.out,foL_snoc,RI.o,htr,HTN.out];rfl)
      have HZT:Hid (t.z = (48 + (N:Int)) :: ((t.g ++ 48 :: (t.g ++ [82])) ++ t.g)):=lH (by rw [RI.z,RI.mid,htr,HTN.out];rfl)
      have HI:=lH (refC (N:Int) w5.drew (by omega))
      clear htr hR hp HD4 HOW4 HTX
      go_upto_region 17 with fail
      refine wp_region_heldR (fun w'=>w'.cell? ⟨g,3,none⟩ = some (.slice AV i cV)) 7 (by kernel_rfl) HD5.out.drew_.at3 (fun hHeld=>?_)
      refine tkQ 0 ?_
      try simp only [Act.put,aS2,aS0,aS1]
      refine tkQ 1 ?_
      try simp only [Act.put,aS2,aS0,aS1]
      refine tkQ 2 ?_
      try simp only [Act.put,aS2,aS0,aS1]
      refine wpAnyR_step 3 rfl (by kernel_rfl) (fun K hK=>?_)
      go_simp
      go_at_call 19
      refine HI.out.mono ?_
      rintro r w6 ⟨e0,e1,e2,e3,e4,rfl,hy6,hb6⟩
      have HAP:=lH (HOW5.out.drewG.lit hb6 (.mk 9 (N:Int) [] .nil .nil) hy6 (by rw [HOL.out];have:=HNN.out;have:=HIN.out;omega) HD5.out.drew_.lt (fun _ h=>h.elim))
      have HD6:=lH (HD5.out.drew_.low_ hb6)
      clear hy6 hb6
      go_wp2_with fail
      refine hK.out _ _ HD6.out.at3 (fun hHeld=>?_)
      clear hK K
      try simp only [Act.put,aS2,aS0,aS1]
      refine wpAnyR_step 4 rfl (by kernel_rfl) (fun K hK=>?_)
      go_simp
      refine hK.out _ _ (by go_keep) (fun hHeld=>?_)
      clear hK K
      try simp only [Act.put,aS2,aS0,aS1]
      refine wpAnyR_step 5 rfl (by kernel_rfl) (fun K hK=>?_)
      obtain ⟨A7,c7,w7,hrun,ho7,hb7⟩:=HAP.out
      rw [HOL.out] at hrun ho7
      refine step_append_run9 rfl (.tmp 69) (.tmp 72) 24 rfl (.slice AV i cV) (.slice (some ⟨w6.heap.size,0,none⟩) 1 1) rfl rfl hrun ?_
      have HD7:=lH (HD6.out.step hb7)
      have fz:w7.frozen? ⟨g,3,none⟩ = false:=by (have:=HD7.out.row;simp [World.frozen?,this])
      have h73:=HD7.out.at3
      have HD8:=lH (HD7.out.put3 (.slice A7 (i + 1) c7))
      have HOW8:=lH (OwnO.keepB ho7 ((Only.refl g w7).set_ 3 (.slice A7 (i + 1) c7)) (by omega) (fun h=>h))
      rw [← HTO.out] at HOW8
      clear hrun ho7 hb7
      refine hK.out _ _ h73 (fun hHeld=>?_)
      clear hK K
      try simp only [Act.put,aS2,aS0,aS1]
      refine tkQ 6 ?_
      try simp only [Act.put,aS2,aS0,aS1]
      refine wpAnyR_last rfl (by kernel_rfl) (by kernel_rfl) (fun K hK=>?_)
      go_simp
      refine hK.out _ _ ?_
      clear hK K
      refine NoPanic.normal ?_
      go_wp2_with fail
      go_roundw
      case rel=>exact ⟨i + 1,c7,A7,_,rfl,by go_num,by have:=HIN.out;omega,lH (by
       rw [HSN.out,rzL_snoc,HZT.out]
       simp only [strZ_app,HS.out,HTSZ.out,HG.out,lit48,lit82,List.append_assoc,List.cons_append,List.nil_append]),HD8,HOW8⟩
      case measure=>have:=HIN.out;simp [intOf];omega
     ·have gp:¬ (N:Int) > 0:=by omega
      have htr:t.r = false:=by rw [HTR.out];exact decide_eq_false (by omega)
      have HTO:Hid (foL .nil (itms us bs (i + 1)) = (foL .nil (itms us bs i)).snoc (.mk 2 (N:Int) [] .nil .nil)):=lH (by rw [HSN.out,foL_snoc,RI.o,htr,HTN.out];rfl)
      have HZT:Hid (t.z = (48 + (N:Int)) :: t.g):=lH (by rw [RI.z,RI.mid,htr,HTN.out];rfl)
      have HI:=lH (intC (N:Int) w5.drew (by omega))
      clear htr hR hp HD4 HOW4 HTX
      go_upto_region 18 with fail
      refine wp_region_heldR (fun w'=>w'.cell? ⟨g,3,none⟩ = some (.slice AV i cV)) 7 (by kernel_rfl) HD5.out.drew_.at3 (fun hHeld=>?_)
      refine tkQ 0 ?_
      try simp only [Act.put,aS2,aS0,aS1]
      refine tkQ 1 ?_
      try simp only [Act.put,aS2,aS0,aS1]
      refine tkQ 2 ?_
      try simp only [Act.put,aS2,aS0,aS1]
      refine wpAnyR_step 3 rfl (by kernel_rfl) (fun K hK=>?_)
      go_simp
      go_at_call 20
      refine HI.out.mono ?_
      rintro r w6 ⟨e0,e1,e2,e3,e4,rfl,hy6,hb6⟩
      have HAP:=lH (HOW5.out.drewG.lit hb6 (.mk 2 (N:Int) [] .nil .nil) hy6 (by rw [HOL.out];have:=HNN.out;have:=HIN.out;omega) HD5.out.drew_.lt (fun _ h=>h.elim))
      have HD6:=lH (HD5.out.drew_.low_ hb6)
      clear hy6 hb6
      go_wp2_with fail
      refine hK.out _ _ HD6.out.at3 (fun hHeld=>?_)
      clear hK K
      try simp only [Act.put,aS2,aS0,aS1]
      refine wpAnyR_step 4 rfl (by kernel_rfl) (fun K hK=>?_)
      go_simp
      refine hK.out _ _ (by go_keep) (fun hHeld=>?_)
      clear hK K
      try simp only [Act.put,aS2,aS0,aS1]
      refine wpAnyR_step 5 rfl (by kernel_rfl) (fun K hK=>?_)
      obtain ⟨A7,c7,w7,hrun,ho7,hb7⟩:=HAP.out
      rw [HOL.out] at hrun ho7
      refine step_append_run9 rfl (.tmp 76) (.tmp 79) 24 rfl (.slice AV i cV) (.slice (some ⟨w6.heap.size,0,none⟩) 1 1) rfl rfl hrun ?_
      have HD7:=lH (HD6.out.step hb7)
      have fz:w7.frozen? ⟨g,3,none⟩ = false:=by (have:=HD7.out.row;simp [World.frozen?,this])
      have h73:=HD7.out.at3
      have HD8:=lH (HD7.out.put3 (.slice A7 (i + 1) c7))
      have HOW8:=lH (OwnO.keepB ho7 ((Only.refl g w7).set_ 3 (.slice A7 (i + 1) c7)) (by omega) (fun h=>h))
      rw [← HTO.out] at HOW8
      clear hrun ho7 hb7
      refine hK.out _ _ h73 (fun hHeld=>?_)
      clear hK K
      try simp only [Act.put,aS2,aS0,aS1]
      refine tkQ 6 ?_
      try simp only [Act.put,aS2,aS0,aS1]
      refine wpAnyR_last rfl (by kernel_rfl) (by kernel_rfl) (fun K hK=>?_)
      go_simp
      refine hK.out _ _ ?_
      clear hK K
      refine NoPanic.normal ?_
      go_wp2_with fail
      go_roundw
      case rel=>exact ⟨i + 1,c7,A7,_,rfl,by go_num,by have:=HIN.out;omega,lH (by
       rw [HSN.out,rzL_snoc,HZT.out]
       simp only [strZ_app,HS.out,HTSZ.out,HG.out,List.append_assoc,List.cons_append,List.nil_append]),HD8,HOW8⟩
      case measure=>have:=HIN.out;simp [intOf];omega
  ·obtain rfl:i = n:=by omega
   have hZ:strZ (S ++ ⟨#[93]⟩) = 91 :: (rzL (itms us bs i) ++ [93]):=by rw [strZ_app,HS.out];rfl
   have hZL:=strZ_len (S ++ ⟨#[93]⟩)
   have hcz:=conv_txt (S ++ ⟨#[93]⟩) wr
   have hby:=strZ_byt wr (S ++ ⟨#[93]⟩)
   have hbl:=strZ_below wr (S ++ ⟨#[93]⟩)
   obtain ⟨w5,hw5⟩:∃ w5,Lib.bytesWorld wr 5 (S ++ ⟨#[93]⟩) = w5:=⟨_,rfl⟩
   have hs5:w5.heap.size = wr.heap.size + 1:=by rw [← hw5,Lib.bytesWorld_size]
   rw [hw5] at hby hbl hcz
   obtain ⟨cz,hcc⟩:∃ cz,grownCap wr (S ++ ⟨#[93]⟩).size 0 5 = cz:=⟨_,rfl⟩
   rw [hcc] at hby hcz
   rw [← hs5] at hby
   have hM8:(S ++ ⟨#[93]⟩).size ≤ 801:=by rw [ByteArray.size_append];have:(⟨#[93]⟩:ByteArray).size = 1:=rfl;omega
   obtain ⟨M,hM⟩:∃ M,(S ++ ⟨#[93]⟩).size = M:=⟨_,rfl⟩
   rw [hM] at hby hcz hM8 hZL
   have hal:=pAllC _ M cz 3 (strZ (S ++ ⟨#[93]⟩)) w5 (M + 1) hby (by omega) (by decide) (Nat.lt_succ_self M)
   rw [show dpZ 3 = 3 by decide,refs_all _ (itms us bs i) (itms_ok us bs i) hZ (M + 1) (by rw [hZL];exact Nat.lt_succ_self M)] at hal
   have HAL:=lH hal
   have HD5:=lH (HD.out.low_ hbl)
   have HOW5:=lH (HOW.out.low hbl)
   have HOL:=lH hol
   obtain ⟨L,hL⟩:∃ L,foL .nil (itms us bs i) = L:=⟨_,rfl⟩
   rw [hL] at HAL HOW5 HOL
   clear hZ hZL hby hbl hw5 hs5 hcc hM8 hal hL HD HOW hol HS
   go_upto_region 21 with (first
    | (go_at_call 9;refine HAL.out.mono ?_;(rintro r w6 ⟨d0,d1,d2,d3,d4,hrr,hob,hb6⟩);(try dsimp only at hrr hob);subst hrr;obtain ⟨k6,n6,A6,m6,e6,B6,l6,f6,C6,o6,h6,rfl,rfl,rfl,rfl,rfl⟩:=hob.shp;have HO6:=lH hob;have HB6:=lH hb6;clear hob hb6))
   have hb7:=(Below.refl w6.heap.size w6).alloc (Nat.le_refl _) (.cells #[.int .i64 k6,.int .i64 n6,.slice A6 m6 e6,.slice B6 l6 f6,.slice C6 o6 h6] 27)
   have hn7:=heap_alloc_new w6 (.cells #[.int .i64 k6,.int .i64 n6,.slice A6 m6 e6,.slice B6 l6 f6,.slice C6 o6 h6] 27)
   obtain ⟨w7,hw7⟩:∃ w7,w6.alloc (.cells #[.int .i64 k6,.int .i64 n6,.slice A6 m6 e6,.slice B6 l6 f6,.slice C6 o6 h6] 27) = w7:=⟨_,rfl⟩
   rw [hw7] at hb7 hn7
   rw [hw7]
   have HD7:=lH ((HD5.out.low_ HB6.out).low_ hb7)
   have how7:=(HOW5.out.low HB6.out).low hb7
   obtain ⟨AX,cX,eX,hcX,hxX⟩:=how7.shape
   obtain ⟨rfl,hLX,rfl⟩:AV = AX ∧ i = L.len ∧ cV = cX:=by
    injection eX with e1 e2 e3
    exact ⟨e1,e2,e3⟩
   have hox:=ObR.keep (S':=oldT w7) (fun b hb=>hb7.block b hb.2) (fun b hb=>Nat.lt_of_lt_of_le hb.2 hb7.size) _ HO6.out
   have hoy:ObR w7 (oldT w7) (.mk 6 0 [] L .nil) (.int .i64 6) (.int .i64 0) (.slice none 0 0) (.slice AV i cV) (.slice none 0 0):=by
    unfold ObR
    refine ⟨rfl,rfl,by omega,by omega,⟨none,0,0,rfl,bytS_nil _ _⟩,⟨AV,cV,by rw [hLX],hcX,fun h0=>?_⟩,⟨none,0,rfl,by simp [Ens.len],fun h=>absurd h (by simp [Ens.len])⟩⟩
    obtain ⟨g2,o2,e,hg2,hx⟩:=hxX h0
    exact ⟨g2,o2,e,hg2.2,ObsR.keep (fun _ _=>rfl) (fun b hb=>hb.2) L g2 o2 hg2.2 hg2 hx⟩
   have HSM:=lH (same_yes _ w7 hox hoy)
   have n0:=cell_of_row _ _ 0 _ _ (0,0) hn7
   have n1:=cell_of_row _ _ 1 _ _ (0,0) hn7
   have n2:=cell_of_row _ _ 2 _ _ (0,0) hn7
   have n3:=cell_of_row _ _ 3 _ _ (0,0) hn7
   have n4:=cell_of_row _ _ 4 _ _ (0,0) hn7
   have p0:=cell_of_row _ _ 0 _ _ (0,0) HD7.out.row
   have p1:=cell_of_row _ _ 1 _ _ (0,0) HD7.out.row
   have p2:=cell_of_row _ _ 2 _ _ (0,0) HD7.out.row
   have p3:=cell_of_row _ _ 3 _ _ (0,0) HD7.out.row
   have p4:=cell_of_row _ _ 4 _ _ (0,0) HD7.out.row
   clear hb7 hn7 hw7 how7 eX hcX hxX hLX hox hoy HAL HOW5 HO6 HB6 HD5
   go_wp2_with (first
    | (go_at_call 14;refine HSM.out.mono ?_;(rintro r w8 ⟨rfl,hb8⟩);have HB8:=lH (HD7.out.low.trans (hb8.mono HD7.out.low.size));clear hb8))
   go_ret
   exact ⟨rfl,HB8.out⟩
theorem refs_walk (A:Option Addr) (n c:Nat) (us:List Int) (B:Option Addr) (k d:Nat) (bs:List Int) (w:World) (hz:Sht w w.heap.size A n c us) (hn:n ≤ 9223372036854775807) (hy:Byt w w.heap.size B k d bs) (hk:k ≤ 9223372036854775807) :
  Calls Tryz.prog 6 #[.slice A n c,.slice B k d] w fun e w'=>e = .returned (.bool true) ∧ Below w.heap.size w w':=by
 rcases Nat.lt_or_ge 60 n with h | h
 ·exact refs_out1 A n c B k d w hn h
 ·rcases Nat.lt_or_ge 60 k with h2 | h2
  ·exact refs_out2 A n c B k d w hk h h2
  ·exact refs_main A n c us B k d bs w hz hy h h2
set_option maxRecDepth 100000 in
theorem refs_lifted (os:Os) (started:os.Started) (H:Type) (enc:TypeId × Value → H) :
  ReturnsInHanded {} Tryz.checked os 6 .any (Rows.parseRefsSpec.pre6 enc Tryz.prog Tryz.f6 Rows.parseRefsRow.domain false) (Rows.parseRefsSpec.post enc Tryz.prog Tryz.f6 false true false false):=by
 refine returnsInHanded_of_change (C:=Tryz.checked) own started (by kernel_rfl) Tryz.func6
  (ChangeSpec.witness6 (enc:=enc) (C:=Tryz.checked) false ⟨#[],#[.slice none 0 0,.slice none 0 0],[]⟩ 8 (by kernel_rfl) (by kernel_rfl) (by kernel_rfl) (by kernel_rfl)) ?_
 intro W base args ds gs before hval0 hW hcnd _
 have hval:∀ (j:Nat) t v,Tryz.f6.params[j]? = some t → args[j]? = some v → Value.okWide Tryz.prog W .any base t v:=hval0
 have hW':=hW
 obtain ⟨p,q,hA0,hV,rfl,hfz,hnd⟩:=hW
 have hA:DataW.TrodAll enc Tryz.prog W 0 (fun _=>true) true Tryz.f6.params.toList args.toList ds p:=hA0
 rw [Tryz.params6] at hA hval
 obtain ⟨v0,vs0,d0,ds0,p0,q0,hargs,rfl,rfl,h0,r0⟩:=trodAll_cons hA
 obtain ⟨v1,vs1,d1,ds1,p1,q1,rfl,rfl,rfl,h1,r1⟩:=trodAll_cons r0
 obtain ⟨rfl,rfl,rfl⟩:=trodAll_nil r1
 obtain rfl:args = #[v0,v1]:=by cases args;simp_all
 obtain ⟨rfl,rfl⟩:=trodVars_none hV
 obtain ⟨a0,len0,cap0,rfl⟩:=okWide_slice Tryz.underlying56 (hval 0 56 v0 rfl rfl)
 obtain ⟨zs0,hz0,hcm0⟩:=open_shorts h0 (fun _=>rfl)
 have lt0:∀ x ∈ p0,x.block < W.heap.size:=by obtain ⟨m,hm⟩:=h0;exact DataW.trod_lt m _ _ _ hm
 obtain ⟨a1,len1,cap1,rfl⟩:=okWide_slice Tryz.underlying23 (hval 1 23 v1 rfl rfl)
 obtain ⟨zs1,hz1,hcm1⟩:=open_bytes h1 (fun _=>rfl)
 have lt1:∀ x ∈ p1,x.block < W.heap.size:=by obtain ⟨m,hm⟩:=h1;exact DataW.trod_lt m _ _ _ hm
 have hmx:maxLen = 9223372036854775807:=by decide
 clear hA0 hval0
 refine (refs_walk a0 len0 cap0 zs0 a1 len1 cap1 zs1 W hz0 (by have:=hz0.cap;omega) hz1 (by have:=hz1.cap;omega)).mono fun e W' ⟨he,bel⟩=>?_
 subst he
 exact ⟨_,rfl,_,_,_,[],_,[],hW',trodAll_mk1 (shut_bool Tryz.underlying4 _),(trodAll_cons_mk (Below.trod laidOut (by kernel_rfl) (of_decide_eq_true (by kernel_rfl)) h0 bel lt0) (trodAll_cons_mk (Below.trod laidOut (by kernel_rfl) (of_decide_eq_true (by kernel_rfl)) h1 bel lt1) trodAll_mk0)),rfl,bel.frame _,fun h=>by cases h⟩
theorem refs_holds:Rows.ParseRefsSaid :=
 OpenClaim.holds_of_wide 6 Tryz.f6 rfl rfl rfl rfl rfl rfl rfl ⟨rfl,rfl,rfl,rfl,rfl⟩ rfl rfl rfl rfl rfl (by kernel_rfl) Tryz.func6 (by kernel_rfl)
  (of_decide_eq_true (by kernel_rfl)) (by unfold Func.isWrapper;first | (rw [if_pos (by decide +kernel)];kernel_rfl) | (rw [if_neg (by decide +kernel)];exact ⟨rfl,rfl⟩))
  (fun os started H enc _=>refs_lifted os started H enc)
#print axioms refs_holds
end Go.Proofs.YtpomkhcobpihmaaGreat
