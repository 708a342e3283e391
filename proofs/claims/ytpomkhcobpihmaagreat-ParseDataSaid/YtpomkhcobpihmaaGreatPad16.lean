/- Lemmas. -/
import Derived.Test.YtpomkhcobpihmaaGreatPad11
import Derived.Test.YtpomkhcobpihmaaGreatPad15
namespace Go.Proofs.YtpomkhcobpihmaaGreat
set_option maxRecDepth 100000
set_option linter.unusedVariables false
section
open Go.RowKit
set_option maxHeartbeats 4000000 in
theorem rblankC (m n c p B:Nat) (T:TypeId) (X:List Value) (A:Option Addr) (zs:List Int) (w:World) (h:LD w m T X A n c p) (hb:Byt w B A n c zs) (hB:B ≤ m) (hn:n ≤ 1000000) (hp:p ≤ n) :
  Calls Tryz.prog 54 #[.pointer (some ⟨m,0,none⟩)] w fun e w'=>e = .returned (.tuple #[]) ∧ LD w' m T X A n c (blkP zs p) ∧ Only m w w':=by
 have HX0:=lH h
 have HB:=lH hb
 have HL:=lH hb.len
 have HPP:=lH (fun q (hq:q ≤ n) W (hW:LD W m T X A n c q) (ho:Only m w W)=>rpk0 m n c q B T X A zs w W hW ho hb hB (Nat.le_of_lt h.lt) hn (by omega))
 clear h hb
 go_enter Tryz.func54,Tryz.ntmps54
 go_wp2_with fail
 go_loopg [2] (n + 1) (fun gk s2 wr=>∃ q:Nat,Hid (LD wr m T X A n c q) ∧ Hid (Only m w wr) ∧ Hid (blkP zs p = blkP zs q) ∧ Hid (n < gk + q) ∧ Hid (q ≤ n))
 case atStart=>exact ⟨p,HX0,lH (Only.refl _ _),lH rfl,lH (by omega),lH hp⟩
 case round =>
  obtain ⟨q,HX,HO,HE,HG,HQ⟩:=hrel
  have HP0:=lH (HPP.out q HQ.out)
  obtain ⟨y,hy⟩:∃ y,peekZ zs (q:Int) = y:=⟨_,rfl⟩
  rw [hy] at HP0
  have HY:=lH hy
  have HWH:=lH (fun W=>rwhite y W)
  have HQB:=lH (show q ≤ 1000000 by have:=HQ.out;omega)
  have w1:IntKind.i64.wrap ((q:Int) + 1) = (q:Int) + 1:=IntWalk.i64_in _ (by have:=HQB.out;omega)
  have HNG:=lH (show ¬ 0 ≤ y → y < 0 by omega)
  clear hy
  rcases hw:whB y with _ | _
  ·rw [hw] at HWH
   by_cases h37:y = 37
   ·subst h37
    clear hw
    have HCM:=lH (blkP_cm zs q HB.out.rng HY.out)
    go_wp2_with (first
     | (go_at_call 57;(with_reducible refine (HP0.out _ HX.out HO.out).mono ?_);(rintro r wa ⟨rfl,hxa,hoa⟩);(try dsimp only);have HX:=lH hxa;have HO:=lH hoa;have c1:=hxa.c1;have cf:=hxa.fr 1;clear hxa hoa)
     | (go_at_call 80;refine (HWH.out _).mono ?_;(rintro r w7 ⟨rfl,rfl⟩);(try dsimp only)))
    obtain ⟨ko,rfl⟩:∃ ko,ko = gk:=⟨_,rfl⟩
    obtain ⟨wo,hwo⟩:∃ wo:World,wo = wa:=⟨_,rfl⟩
    clear hwo
    go_loopg [] (n + 1) (fun gk wr=>∃ q2:Nat,Hid (LD wr m T X A n c q2) ∧ Hid (Only m w wr) ∧ Hid (q ≤ q2 ∧ q2 ≤ n ∧ q2 + rowZ cmB (zs.drop q2) = q + rowZ cmB (zs.drop q)) ∧ Hid (n < gk + q2))
    case atStart=>exact ⟨q,HX,HO,lH ⟨Nat.le_refl _,HQ.out,rfl⟩,lH (by omega)⟩
    case round =>
     obtain ⟨q2,HX,HO,HE2,HG2⟩:=hrel
     have HP0:=lH (HPP.out q2 HE2.out.2.1)
     obtain ⟨y2,hy2⟩:∃ y,peekZ zs (q2:Int) = y:=⟨_,rfl⟩
     rw [hy2] at HP0
     have HY2:=lH hy2
     have w2:IntKind.i64.wrap ((q2:Int) + 1) = (q2:Int) + 1:=IntWalk.i64_in _ (by have:=HE2.out.2.1;omega)
     clear hy2
     rcases hc:cmB y2 with _ | _
     ·have hcs:y2 < 0 ∨ y2 = 10 ∨ y2 = 13:=by
       unfold cmB at hc
       simp at hc
       omega
      have HEE:Hid (q2 = q + rowZ cmB (zs.drop q)):=lH (by
       have h1:=row_out cmB zs q2 (by rw [HY2.out];exact hc)
       have h2:=HE2.out.2.2
       omega)
      clear hc
      rcases hcs with hy0 | rfl | rfl
      ·have e0:decide (0 ≤ y2) = false:=decide_eq_false (by omega)
       go_wp2_with (first
        | (go_at_call 57;(with_reducible refine (HP0.out _ HX.out HO.out).mono ?_);(rintro r wa ⟨rfl,hxa,hoa⟩);(try dsimp only);have HX:=lH hxa;have HO:=lH hoa;have c1:=hxa.c1;have cf:=hxa.fr 1;clear hxa hoa))
       go_roundg (ko - 1)
       case rel=>exact ⟨q2,HX,HO,lH (by rw [HE.out,HEE.out];exact HCM.out.1),lH (by have h1:=HG.out;have h2:=HCM.out.2;have h3:=HEE.out;omega),lH HE2.out.2.1⟩
       case measure=>have h1:=HG.out;have h2:=HQ.out;omega
      ·go_wp2_with (first
        | (go_at_call 57;(with_reducible refine (HP0.out _ HX.out HO.out).mono ?_);(rintro r wa ⟨rfl,hxa,hoa⟩);(try dsimp only);have HX:=lH hxa;have HO:=lH hoa;have c1:=hxa.c1;have cf:=hxa.fr 1;clear hxa hoa))
       go_roundg (ko - 1)
       case rel=>exact ⟨q2,HX,HO,lH (by rw [HE.out,HEE.out];exact HCM.out.1),lH (by have h1:=HG.out;have h2:=HCM.out.2;have h3:=HEE.out;omega),lH HE2.out.2.1⟩
       case measure=>have h1:=HG.out;have h2:=HQ.out;omega
      ·go_wp2_with (first
        | (go_at_call 57;(with_reducible refine (HP0.out _ HX.out HO.out).mono ?_);(rintro r wa ⟨rfl,hxa,hoa⟩);(try dsimp only);have HX:=lH hxa;have HO:=lH hoa;have c1:=hxa.c1;have cf:=hxa.fr 1;clear hxa hoa))
       go_roundg (ko - 1)
       case rel=>exact ⟨q2,HX,HO,lH (by rw [HE.out,HEE.out];exact HCM.out.1),lH (by have h1:=HG.out;have h2:=HCM.out.2;have h3:=HEE.out;omega),lH HE2.out.2.1⟩
       case measure=>have h1:=HG.out;have h2:=HQ.out;omega
     ·have hcs:0 ≤ y2 ∧ y2 ≠ 10 ∧ y2 ≠ 13:=by
       unfold cmB at hc
       simp at hc
       omega
      have HIN:=lH (row_in cmB (by decide) zs q2 (by rw [HY2.out];exact hc))
      obtain ⟨h0,h10,h13⟩:=hcs
      have n10:(y2 != 10) = true:=bne_iff_ne.2 h10
      have n13:(y2 != 13) = true:=bne_iff_ne.2 h13
      clear hc h10 h13
      go_wp2_with (first
       | (go_at_call 57;(with_reducible refine (HP0.out _ HX.out HO.out).mono ?_);(rintro r wa ⟨rfl,hxa,hoa⟩);(try dsimp only);have HX:=lH hxa;have HO:=lH hoa;have c1:=hxa.c1;have cf:=hxa.fr 1;clear hxa hoa))
      have hq2n:q2 < n:=by have h1:=HIN.out.1;have h2:=HL.out;omega
      have HQN:=lH hq2n
      clear hq2n
      go_roundg (gk - 1)
      case rel=>exact ⟨q2 + 1,lH (HX.out.setI (q2 + 1) _ (by omega)),lH (HO.out.set_ 1 _),lH ⟨by have:=HE2.out.1;omega,by have:=HQN.out;omega,by have h1:=HIN.out.2;have h2:=HE2.out.2.2;omega⟩,lH (by have:=HG2.out;have:=HQN.out;omega)⟩
      case measure=>have:=HG2.out;have:=HQN.out;omega
   ·by_cases h0:0 ≤ y
    ·have y37:(y == 37) = false:=beq_eq_false_iff_ne.2 h37
     have HDN:Hid (blkP zs p = q):=lH (by rw [HE.out];exact blkP_no zs q (by rw [HY.out];exact hw) (by rw [HY.out];exact h37))
     clear hw h37
     go_wp2_with (first
      | (go_at_call 57;(with_reducible refine (HP0.out _ HX.out HO.out).mono ?_);(rintro r wa ⟨rfl,hxa,hoa⟩);(try dsimp only);have HX:=lH hxa;have HO:=lH hoa;have c1:=hxa.c1;have cf:=hxa.fr 1;clear hxa hoa)
      | (go_at_call 80;refine (HWH.out _).mono ?_;(rintro r w7 ⟨rfl,rfl⟩);(try dsimp only)))
     refine ⟨rfl,_,results_none rfl _ _ _,?_⟩
     rw [HDN.out]
     exact ⟨rfl,HX.out,HO.out⟩
    ·have y37:(y == 37) = false:=beq_eq_false_iff_ne.2 h37
     have e0:decide (0 ≤ y) = false:=decide_eq_false h0
     have HDN:Hid (blkP zs p = q):=lH (by rw [HE.out];exact blkP_no zs q (by rw [HY.out];exact hw) (by rw [HY.out];exact h37))
     clear hw h37 h0
     go_wp2_with (first
      | (go_at_call 57;(with_reducible refine (HP0.out _ HX.out HO.out).mono ?_);(rintro r wa ⟨rfl,hxa,hoa⟩);(try dsimp only);have HX:=lH hxa;have HO:=lH hoa;have c1:=hxa.c1;have cf:=hxa.fr 1;clear hxa hoa))
     refine ⟨rfl,_,results_none rfl _ _ _,?_⟩
     rw [HDN.out]
     exact ⟨rfl,HX.out,HO.out⟩
  ·rw [hw] at HWH
   have HS:=lH (blkP_wh zs q (by rw [HY.out];exact hw))
   have h0:0 ≤ y:=by rcases wh_or y hw with rfl | rfl | rfl | rfl | rfl | rfl <;> omega
   clear hw
   go_wp2_with (first
    | (go_at_call 57;(with_reducible refine (HP0.out _ HX.out HO.out).mono ?_);(rintro r wa ⟨rfl,hxa,hoa⟩);(try dsimp only);have HX:=lH hxa;have HO:=lH hoa;have c1:=hxa.c1;have cf:=hxa.fr 1;clear hxa hoa)
    | (go_at_call 80;refine (HWH.out _).mono ?_;(rintro r w7 ⟨rfl,rfl⟩);(try dsimp only)))
   have hqn:q < n:=by have h1:=HS.out.1;have h2:=HL.out;omega
   have HQN:=lH hqn
   clear hqn
   go_roundg (gk - 1)
   case rel=>exact ⟨q + 1,lH (HX.out.setI (q + 1) _ (by omega)),lH (HO.out.set_ 1 _),lH (by rw [HE.out];exact HS.out.2),lH (by have:=HG.out;have:=HQN.out;omega),lH (by have:=HQN.out;omega)⟩
   case measure=>have:=HG.out;have:=HQN.out;omega
end
section
open Go.RowKit
set_option maxHeartbeats 4000000 in
theorem rrunC (m n c p B:Nat) (T:TypeId) (X:List Value) (A:Option Addr) (zs:List Int) (w:World) (h:LD w m T X A n c p) (hb:Byt w B A n c zs) (hB:B ≤ m) (hn:n ≤ 1000000) (hp:p ≤ n) :
  Calls Tryz.prog 122 #[.pointer (some ⟨m,0,none⟩)] w fun e w'=>∃ v,e = .returned v ∧ Mine w' w.heap.size v (rowZ regB (zs.drop p)) ((zs.drop p).take (rowZ regB (zs.drop p))) ∧ LD w' m T X A n c (p + rowZ regB (zs.drop p)) ∧ Only m w w':=by
 have HX:=lH h
 have HX0:=lH h
 have HO:Hid (Only m w w):=lH (Only.refl m w)
 have HB:=lH hb
 have HL:=lH hb.len
 have HC:=lH hb.cap
 have HMW:=lH h.lt
 have HPP:=lH (fun q (hq:q ≤ n) W (hW:LD W m T X A n c q) (ho:Only m w W)=>rpk0 m n c q B T X A zs w W hW ho hb hB (Nat.le_of_lt h.lt) hn (by omega))
 have c1:=h.c1
 clear h hb
 go_enter Tryz.func122,Tryz.ntmps122
 go_wp2_with fail
 go_loopg [] (n + 1) (fun gk wr=>∃ q:Nat,Hid (LD wr m T X A n c q) ∧ Hid (Only m w wr) ∧ Hid (p ≤ q ∧ q ≤ n ∧ q + rowZ regB (zs.drop q) = p + rowZ regB (zs.drop p)) ∧ Hid (n < gk + q))
 case atStart=>exact ⟨p,HX,HO,lH ⟨Nat.le_refl _,hp,rfl⟩,lH (by omega)⟩
 case round =>
  obtain ⟨q,HX,HO,HE,HG⟩:=hrel
  have HP0:=lH (HPP.out q HE.out.2.1)
  obtain ⟨y,hy⟩:∃ y,peekZ zs (q:Int) = y:=⟨_,rfl⟩
  rw [hy] at HP0
  have HY:=lH hy
  have HRG:=lH (fun W=>rregC y W)
  have w1:IntKind.i64.wrap ((q:Int) + 1) = (q:Int) + 1:=IntWalk.i64_in _ (by have:=HE.out;omega)
  clear hy
  rcases hc:regB y with _ | _
  ·rw [hc] at HRG
   have HEE:Hid (q = p + rowZ regB (zs.drop p)):=lH (by
    have h1:=row_out regB zs q (by rw [HY.out];exact hc)
    have h2:=HE.out.2.2
    omega)
   clear hc
   go_upto_region 4 with (first
    | (go_at_call 57;(with_reducible refine (HP0.out _ HX.out HO.out).mono ?_);(rintro r wa ⟨rfl,hxa,hoa⟩);(try dsimp only);have HX:=lH hxa;have HO:=lH hoa;have c1:=hxa.c1;have cf:=hxa.fr 1;clear hxa hoa)
    | (go_at_call 56;refine (HRG.out _).mono ?_;(rintro r w7 ⟨rfl,rfl⟩);(try dsimp only)))
   have c0:=HX.out.c0
   have hsl:=fun W=>run_cut (P:=Tryz.prog) W 23 5 Tryz.underlying23 (fun w=>by kernel_rfl) A n c p q HE.out.1 (by have h1:=HE.out.2.1;have h2:=HC.out;omega)
   have HBQ:=lH (((HB.out.only HO.out hB (Nat.le_of_lt HMW.out)).drewN 1).cut (l:=p) (m:=q - p) (by have h1:=HE.out;omega))
   have HSZ:=lH (show B ≤ wa.heap.size by have h1:=HMW.out;have h2:=HO.out.size;omega)
   have HCP:=lH (refCopy (cutA A c p) (q - p) (c - p) ((zs.drop p).take (q - p)) (wa.drewN 1) (HBQ.out.more (by exact HSZ.out)) (by have h1:=HE.out;omega))
   refine wp_region_heldR (fun w'=>w'.cell? ⟨m,0,none⟩ = some (.slice A n c) ∧ w'.cell? ⟨m,1,none⟩ = some (.int .i64 q)) 1000 (by kernel_rfl) ⟨c0,c1⟩ (fun hHeld=>?_)
   refine tkQ 0 ?_
   try simp only [Act.put,aS2,aS0,aS1]
   refine tkQ 1 ?_
   try simp only [Act.put,aS2,aS0,aS1]
   refine tkQ 2 ?_
   try simp only [Act.put,aS2,aS0,aS1]
   refine tkQ 3 ?_
   try simp only [Act.put,aS2,aS0,aS1]
   refine tkQ 4 ?_
   try simp only [Act.put,aS2,aS0,aS1]
   refine tkQ 5 ?_
   try simp only [Act.put,aS2,aS0,aS1]
   refine tkQ 6 ?_
   try simp only [Act.put,aS2,aS0,aS1]
   refine tkQ 7 ?_
   try simp only [Act.put,aS2,aS0,aS1]
   refine tkQ 8 ?_
   try simp only [Act.put,aS2,aS0,aS1]
   refine tkQ 9 ?_
   try simp only [Act.put,aS2,aS0,aS1]
   refine wpAnyR_step 10 rfl (by kernel_rfl) (fun K hK=>?_)
   go_simp
   go_at_call 60
   refine HCP.out.mono ?_
   rintro r w5 ⟨v,rfl,hm5,hb5⟩
   have HX5:=lH ((HX.out.drewN 1).below hb5 (HX.out.drewN 1).lt)
   have HM5:=lH hm5
   have HO5:=lH ((HO.out.drewN 1).trans (Only.of_below hb5 m))
   clear hm5 hb5
   refine hK.out _ _ (⟨HX5.out.c0,HX5.out.c1⟩) (fun hHeld=>?_)
   clear hK K
   try simp only [Act.put,aS2,aS0,aS1]
   refine tkQ 11 ?_
   try simp only [Act.put,aS2,aS0,aS1]
   refine wpAnyR_done (by kernel_rfl) ?_
   refine NoPanic.normal ?_
   go_wp2_with fail
   go_ret
   have hk:q - p = rowZ regB (zs.drop p):=by have:=HEE.out;omega
   have hm:=HM5.out
   rw [hk] at hm
   refine ⟨_,rfl,hm.weak8 (by have h1:=HO.out.size;show w.heap.size ≤ wa.heap.size;exact h1),?_,HO5.out⟩
   have hx:=HX5.out
   rw [HEE.out] at hx
   exact hx
  ·rw [hc] at HRG
   have HIN:=lH (row_in regB (by decide) zs q (by rw [HY.out];exact hc))
   clear hc
   go_wp2_with (first
    | (go_at_call 57;(with_reducible refine (HP0.out _ HX.out HO.out).mono ?_);(rintro r wa ⟨rfl,hxa,hoa⟩);(try dsimp only);have HX:=lH hxa;have HO:=lH hoa;have c1:=hxa.c1;have cf:=hxa.fr 1;clear hxa hoa)
    | (go_at_call 56;refine (HRG.out _).mono ?_;(rintro r w7 ⟨rfl,rfl⟩);(try dsimp only)))
   have hqn:q < n:=by have h1:=HIN.out.1;have h2:=HL.out;omega
   have HQN:=lH hqn
   clear hqn
   go_roundg (gk - 1)
   case rel=>exact ⟨q + 1,lH (HX.out.setI (q + 1) _ (by omega)),lH (HO.out.set_ 1 _),lH ⟨by have:=HE.out.1;omega,by have:=HQN.out;omega,by have h1:=HIN.out.2;have h2:=HE.out.2.2;omega⟩,lH (by have:=HG.out;have:=HQN.out;omega)⟩
   case measure=>have:=HG.out;have:=HQN.out;omega
end
end Go.Proofs.YtpomkhcobpihmaaGreat
