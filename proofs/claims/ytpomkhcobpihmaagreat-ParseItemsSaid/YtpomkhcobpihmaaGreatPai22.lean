/- Contracts of functions that the law calls, and what they lean on (a part). -/
import Derived.Test.YtpomkhcobpihmaaGreatPai17
namespace Go.Proofs.YtpomkhcobpihmaaGreat
section
open Go.RowKit
set_option linter.unusedVariables false
set_option maxRecDepth 100000
theorem and_255 (x:Int) (h0:0 ≤ x) (h1:x < 512):bits .and .i64 x 255 = x % 256:=by
 have h:∀ k:Fin 512,bits .and .i64 (k.val:Int) 255 = (k.val:Int) % 256:=by decide +kernel
 have h2:=h ⟨x.toNat,by omega⟩
 have e:((x.toNat:Nat):Int) = x:=by omega
 simpa only [e] using h2
set_option maxHeartbeats 8000000 in
theorem rescC (m n c p B:Nat) (T:TypeId) (X:List Value) (A:Option Addr) (zs:List Int) (w:World) (h:LD w m T X A n c p) (hb:Byt w B A n c zs) (hB:B ≤ m) (hn:n ≤ 1000000) (hp:p < n) :
  Calls Tryz.prog 134 #[.pointer (some ⟨m,0,none⟩)] w fun e w'=>e = .returned (.int .i64 (escZ zs p).1) ∧ LD w' m T X A n c (escZ zs p).2 ∧ Only m w w':=by
 have HEO:=lH (reolC m n c p B T X A zs w h hb hB hn (by omega))
 have HPP:=lH (fun q (hq:q ≤ n) W (hW:LD W m T X A n c q) (ho:Only m w W)=>rpk0 m n c q B T X A zs w W hW ho hb hB (Nat.le_of_lt h.lt) hn (by omega))
 have HL:=lH hb.len
 have HPN:=lH hp
 have hbd:=peekZ_bd zs hb.rng (p:Int)
 have hy0:0 ≤ peekZ zs (p:Int):=by
  rw [peekZ_in zs p (by rw [hb.len];exact hp),getD_eq zs p (by rw [hb.len];exact hp)]
  exact (hb.rng _ (List.getElem_mem _)).1
 obtain ⟨y,hy⟩:∃ y,peekZ zs (p:Int) = y:=⟨_,rfl⟩
 have HP0:=lH (HPP.out p (by omega))
 rw [hy] at hbd hy0 HP0
 have HY:=lH hy
 have w1:IntKind.i64.wrap ((p:Int) + 1) = (p:Int) + 1:=IntWalk.i64_in _ (by omega)
 have HQ1:Hid ((p:Int) + 1 = ((p + 1:Nat):Int)):=lH (by omega)
 clear h hb hp
 unfold eolZ at HEO
 rw [hy] at HEO
 obtain rfl | rfl | ⟨a6,a7⟩:y = 13 ∨ y = 10 ∨ (y ≠ 13 ∧ y ≠ 10):=by omega
 ·have hE:escZ zs p = (-1,if peekZ zs ((p + 1:Nat):Int) = 10 then p + 2 else p + 1):=by simp [escZ,hy]
  rw [hE]
  rw [if_pos rfl] at HEO
  obtain ⟨qq,hqq⟩:∃ qq,(if peekZ zs ((p + 1:Nat):Int) = 10 then p + 2 else p + 1) = qq:=⟨_,rfl⟩
  rw [hqq] at HEO ⊢
  clear hE hy hqq hbd hy0
  go_enter Tryz.func134,Tryz.ntmps134
  go_wp2_with (first
   | (go_at_call 61;(with_reducible refine HEO.out.mono ?_);(rintro r wa ⟨rfl,hxa,hoa⟩);(try dsimp only);have HX:=lH hxa;have HO:=lH hoa;have c1:=hxa.c1;have cf:=hxa.fr 1;clear hxa hoa))
  go_ret
  exact ⟨rfl,HX.out,HO.out⟩
 ·have hE:escZ zs p = (-1,p + 1):=by simp [escZ,hy]
  rw [hE]
  rw [if_neg (by decide),if_pos rfl] at HEO
  obtain ⟨qq,hqq⟩:∃ qq,(p + 1) = qq:=⟨_,rfl⟩
  rw [hqq] at HEO ⊢
  clear hE hy hqq hbd hy0
  go_enter Tryz.func134,Tryz.ntmps134
  go_wp2_with (first
   | (go_at_call 61;(with_reducible refine HEO.out.mono ?_);(rintro r wa ⟨rfl,hxa,hoa⟩);(try dsimp only);have HX:=lH hxa;have HO:=lH hoa;have c1:=hxa.c1;have cf:=hxa.fr 1;clear hxa hoa))
  go_ret
  exact ⟨rfl,HX.out,HO.out⟩
 ·rw [if_neg a6,if_neg a7] at HEO
  by_cases ho:48 ≤ y ∧ y ≤ 55
  ·have hob:octB y = true:=by unfold octB;simpa using ho
   have hE:escZ zs p = octR zs (p + 1) (y - 48):=by
    have b1:y ≠ 110:=by omega
    have b2:y ≠ 114:=by omega
    have b3:y ≠ 116:=by omega
    have b4:y ≠ 98:=by omega
    have b5:y ≠ 102:=by omega
    simp only [escZ,hy,b1,b2,b3,b4,b5,a6,a7,if_false,hob,if_true,octR]
   rw [hE]
   obtain ⟨R,hR⟩:∃ R,octR zs (p + 1) (y - 48) = R:=⟨_,rfl⟩
   rw [hR]
   have HR:=lH hR
   have HYY:=lH ho
   obtain ⟨o1,o2⟩:=ho
   clear hE hR hy hbd hy0 a6 a7 hob
   go_enter Tryz.func134,Tryz.ntmps134
   go_wp2_with (first
    | (go_at_call 61;(with_reducible refine HEO.out.mono ?_);(rintro r wa ⟨rfl,hxa,hoa⟩);(try dsimp only);have HX:=lH hxa;have HO:=lH hoa;have c1:=hxa.c1;have cf:=hxa.fr 1;clear hxa hoa)
    | (go_at_call 57;(with_reducible refine (HP0.out _ HX.out HO.out).mono ?_);(rintro r wa ⟨rfl,hxa,hoa⟩);(try dsimp only);have HX:=lH hxa;have HO:=lH hoa;have c1:=hxa.c1;have cf:=hxa.fr 1;clear hxa hoa))
   clear o1 o2
   go_loopg [4,5] 4 (fun gk s4 s5 wr=>∃ (i q:Nat) (z:Int),s5 = .int .i64 i ∧ s4 = .int .i64 z ∧ 0 ≤ z ∧ z ≤ 511 ∧ i ≤ 3 ∧ Hid (gk + i = 4) ∧ Hid (q = p + i ∧ q ≤ n) ∧ Hid (LD wr m T X A n c q) ∧ Hid (Only m w wr) ∧ Hid ((i = 0 ∧ z = 0) ∨ (i = 1 ∧ z ≤ 7 ∧ octR zs q z = R) ∨ (i = 2 ∧ z ≤ 63 ∧ (if octB (peekZ zs (q:Int)) = true then ((z * 8 + (peekZ zs (q:Int) - 48)) % 256,q + 1) else (z % 256,q)) = R) ∨ (i = 3 ∧ (z % 256,q) = R)))
   case atStart=>exact ⟨0,p,0,rfl,rfl,by omega,by omega,by omega,lH rfl,lH ⟨rfl,by have:=HPN.out;omega⟩,HX,HO,lH (.inl ⟨rfl,rfl⟩)⟩
   case round =>
    obtain ⟨i,q,z,rfl,rfl,z0,z1,hi3,HG,HQ,HX,HO,HC⟩:=hrel
    have c1:=HX.out.c1
    have cf:=HX.out.fr 1
    have hand:=and_255 z z0 (by omega)
    by_cases hi:i = 3
    ·have hR2:Hid ((z % 256,q) = R):=lH (by
      rcases HC.out with ⟨h1,_⟩ | ⟨h1,_⟩ | ⟨h1,_⟩ | ⟨_,h2⟩
      ·omega
      ·omega
      ·omega
      ·exact h2)
     have gi:decide ((i:Int) < 3) = false:=decide_eq_false (by omega)
     have gi':decide (i < 3) = false:=decide_eq_false (by omega)
     clear hi hi3
     go_wp2_with fail
     go_ret
     rw [← hR2.out]
     exact ⟨ret_int (by first | rfl | omega),HX.out,HO.out⟩
    ·have gi:(i:Int) < 3:=by omega
     have HP0:=lH (HPP.out q HQ.out.2)
     obtain ⟨x,hx⟩:∃ x,peekZ zs (q:Int) = x:=⟨_,rfl⟩
     have HXX:=lH hx
     rw [hx] at HP0
     have HI:=lH (show i < 3 by omega)
     rcases hob:octB x with _ | _
     ·have hR2:Hid ((z % 256,q) = R):=lH (by
       rcases HC.out with ⟨h1,_⟩ | ⟨h1,_,h2⟩ | ⟨h1,_,h2⟩ | ⟨h1,_⟩
       ·exfalso
        have h3:=HQ.out.1
        rw [h1,Nat.add_zero] at h3
        rw [h3,HY.out] at hx
        have h4:=oct_out x hob
        have h5:=HYY.out
        omega
       ·rw [octR,hx,if_neg (by rw [hob];decide)] at h2;exact h2
       ·rw [hx,if_neg (by rw [hob];decide)] at h2;exact h2
       ·omega)
      have hcs:=oct_out x hob
      clear hi hi3 hx hob
      rcases hcs with h1 | h1
      ·have g1:decide (x ≥ 48) = false:=decide_eq_false (by omega)
       have g1':decide (48 ≤ x) = false:=decide_eq_false (by omega)
       go_wp2_with (first
        | (go_at_call 57;(with_reducible refine (HP0.out _ HX.out HO.out).mono ?_);(rintro r wa ⟨rfl,hxa,hoa⟩);(try dsimp only);have HX:=lH hxa;have HO:=lH hoa;have c1:=hxa.c1;have cf:=hxa.fr 1;clear hxa hoa))
       go_ret
       rw [← hR2.out]
       exact ⟨ret_int (by first | rfl | omega),HX.out,HO.out⟩
      ·have g1:decide (x ≤ 55) = false:=decide_eq_false (by omega)
       go_wp2_with (first
        | (go_at_call 57;(with_reducible refine (HP0.out _ HX.out HO.out).mono ?_);(rintro r wa ⟨rfl,hxa,hoa⟩);(try dsimp only);have HX:=lH hxa;have HO:=lH hoa;have c1:=hxa.c1;have cf:=hxa.fr 1;clear hxa hoa))
       go_ret
       rw [← hR2.out]
       exact ⟨ret_int (by first | rfl | omega),HX.out,HO.out⟩
     ·have hxb:=oct_in x hob
      have hq:=peekZ_lt zs q (by omega)
      have hqn:q < n:=by have:=HL.out;omega
      have HQN:=lH hqn
      have hz63:Hid (z ≤ 63):=lH (by
       rcases HC.out with ⟨h1,h2⟩ | ⟨h1,h2,_⟩ | ⟨h1,h2,_⟩ | ⟨h1,_⟩ <;> omega)
      obtain ⟨z2,hz2⟩:∃ z2,z * 8 + (x - 48) = z2:=⟨_,rfl⟩
      have hz2b:0 ≤ z2 ∧ z2 ≤ 511:=by have:=hz63.out;omega
      have HZ2:=lH hz2b
      have HCC:Hid ((i + 1 = 1 ∧ z2 ≤ 7 ∧ octR zs (q + 1) z2 = R) ∨ (i + 1 = 2 ∧ z2 ≤ 63 ∧ (if octB (peekZ zs ((q + 1:Nat):Int)) = true then ((z2 * 8 + (peekZ zs ((q + 1:Nat):Int) - 48)) % 256,q + 1 + 1) else (z2 % 256,q + 1)) = R) ∨ (i + 1 = 3 ∧ (z2 % 256,q + 1) = R)):=lH (by
       rcases HC.out with ⟨h1,h2⟩ | ⟨h1,h3,h2⟩ | ⟨h1,h3,h2⟩ | ⟨h1,_⟩
       ·have h3:=HQ.out.1
        rw [h1,Nat.add_zero] at h3
        have hxy:x = y:=by rw [← hx,h3,HY.out]
        refine .inl ⟨by omega,by omega,?_⟩
        rw [h3,show z2 = y - 48 by omega]
        exact HR.out
       ·rw [octR,hx,if_pos hob,hz2] at h2;exact .inr (.inl ⟨by omega,by omega,h2⟩)
       ·rw [hx,if_pos hob,hz2] at h2;exact .inr (.inr ⟨by omega,h2⟩)
       ·omega)
      have wa1:IntKind.i64.wrap (8 * z) = 8 * z:=IntWalk.i64_in _ (by have:=hz63.out;omega)
      have wa2:IntKind.i64.wrap (8 * z + x) = 8 * z + x:=IntWalk.i64_in _ (by have:=hz63.out;omega)
      have wa3:IntKind.i64.wrap (8 * z + x - 48) = z2:=by rw [show 8 * z + x - 48 = z2 by omega];exact IntWalk.i64_in _ (by omega)
      have wq:IntKind.i64.wrap ((q:Int) + 1) = (q:Int) + 1:=IntWalk.i64_in _ (by omega)
      obtain ⟨g1,g2⟩:=hxb
      clear hi hi3 hx hob hq hqn hz2 hz2b
      go_wp2_with (first
       | (go_at_call 57;(with_reducible refine (HP0.out _ HX.out HO.out).mono ?_);(rintro r wa ⟨rfl,hxa,hoa⟩);(try dsimp only);have HX:=lH hxa;have HO:=lH hoa;have c1:=hxa.c1;have cf:=hxa.fr 1;clear hxa hoa))
      go_roundg (gk - 1)
      case rel=>exact ⟨i + 1,q + 1,z2,by go_num,rfl,HZ2.out.1,HZ2.out.2,by have:=HI.out;omega,lH (by have:=HG.out;have:=HI.out;omega),lH ⟨by have:=HQ.out.1;omega,by have:=HQN.out;omega⟩,lH (HX.out.setI (q + 1) _ (by omega)),lH (HO.out.set_ 1 _),lH (.inr HCC.out)⟩
      case measure=>have:=HG.out;have:=HI.out;omega
  ·have hob:octB y = false:=by unfold octB;simpa using ho
   have hgs:decide (48 ≤ y) = false ∨ (decide (48 ≤ y) = true ∧ decide (y ≤ 55) = false):=by
    by_cases h1:48 ≤ y
    ·exact .inr ⟨decide_eq_true h1,decide_eq_false (by omega)⟩
    ·exact .inl (decide_eq_false h1)
   have HHO:=lH ho
   clear ho
   obtain rfl | rfl | rfl | rfl | rfl | hy1:y = 110 ∨ y = 114 ∨ y = 116 ∨ y = 98 ∨ y = 102 ∨ (y ≠ 110 ∧ y ≠ 114 ∧ y ≠ 116 ∧ y ≠ 98 ∧ y ≠ 102):=by omega
   ·have hE:escZ zs p = (10,p + 1):=by simp [escZ,hy]
    rw [hE]
    clear hE hy hgs hob hbd hy0 a6 a7
    go_enter Tryz.func134,Tryz.ntmps134
    go_wp2_with (first
     | (go_at_call 61;(with_reducible refine HEO.out.mono ?_);(rintro r wa ⟨rfl,hxa,hoa⟩);(try dsimp only);have HX:=lH hxa;have HO:=lH hoa;have c1:=hxa.c1;have cf:=hxa.fr 1;clear hxa hoa)
     | (go_at_call 57;(with_reducible refine (HP0.out _ HX.out HO.out).mono ?_);(rintro r wa ⟨rfl,hxa,hoa⟩);(try dsimp only);have HX:=lH hxa;have HO:=lH hoa;have c1:=hxa.c1;have cf:=hxa.fr 1;clear hxa hoa))
    go_ret
    exact ⟨rfl,HX.out.setI (p + 1) _ HQ1.out,HO.out.set_ 1 _⟩
   ·have hE:escZ zs p = (13,p + 1):=by simp [escZ,hy]
    rw [hE]
    clear hE hy hgs hob hbd hy0 a6 a7
    go_enter Tryz.func134,Tryz.ntmps134
    go_wp2_with (first
     | (go_at_call 61;(with_reducible refine HEO.out.mono ?_);(rintro r wa ⟨rfl,hxa,hoa⟩);(try dsimp only);have HX:=lH hxa;have HO:=lH hoa;have c1:=hxa.c1;have cf:=hxa.fr 1;clear hxa hoa)
     | (go_at_call 57;(with_reducible refine (HP0.out _ HX.out HO.out).mono ?_);(rintro r wa ⟨rfl,hxa,hoa⟩);(try dsimp only);have HX:=lH hxa;have HO:=lH hoa;have c1:=hxa.c1;have cf:=hxa.fr 1;clear hxa hoa))
    go_ret
    exact ⟨rfl,HX.out.setI (p + 1) _ HQ1.out,HO.out.set_ 1 _⟩
   ·have hE:escZ zs p = (9,p + 1):=by simp [escZ,hy]
    rw [hE]
    clear hE hy hgs hob hbd hy0 a6 a7
    go_enter Tryz.func134,Tryz.ntmps134
    go_wp2_with (first
     | (go_at_call 61;(with_reducible refine HEO.out.mono ?_);(rintro r wa ⟨rfl,hxa,hoa⟩);(try dsimp only);have HX:=lH hxa;have HO:=lH hoa;have c1:=hxa.c1;have cf:=hxa.fr 1;clear hxa hoa)
     | (go_at_call 57;(with_reducible refine (HP0.out _ HX.out HO.out).mono ?_);(rintro r wa ⟨rfl,hxa,hoa⟩);(try dsimp only);have HX:=lH hxa;have HO:=lH hoa;have c1:=hxa.c1;have cf:=hxa.fr 1;clear hxa hoa))
    go_ret
    exact ⟨rfl,HX.out.setI (p + 1) _ HQ1.out,HO.out.set_ 1 _⟩
   ·have hE:escZ zs p = (8,p + 1):=by simp [escZ,hy]
    rw [hE]
    clear hE hy hgs hob hbd hy0 a6 a7
    go_enter Tryz.func134,Tryz.ntmps134
    go_wp2_with (first
     | (go_at_call 61;(with_reducible refine HEO.out.mono ?_);(rintro r wa ⟨rfl,hxa,hoa⟩);(try dsimp only);have HX:=lH hxa;have HO:=lH hoa;have c1:=hxa.c1;have cf:=hxa.fr 1;clear hxa hoa)
     | (go_at_call 57;(with_reducible refine (HP0.out _ HX.out HO.out).mono ?_);(rintro r wa ⟨rfl,hxa,hoa⟩);(try dsimp only);have HX:=lH hxa;have HO:=lH hoa;have c1:=hxa.c1;have cf:=hxa.fr 1;clear hxa hoa))
    go_ret
    exact ⟨rfl,HX.out.setI (p + 1) _ HQ1.out,HO.out.set_ 1 _⟩
   ·have hE:escZ zs p = (12,p + 1):=by simp [escZ,hy]
    rw [hE]
    clear hE hy hgs hob hbd hy0 a6 a7
    go_enter Tryz.func134,Tryz.ntmps134
    go_wp2_with (first
     | (go_at_call 61;(with_reducible refine HEO.out.mono ?_);(rintro r wa ⟨rfl,hxa,hoa⟩);(try dsimp only);have HX:=lH hxa;have HO:=lH hoa;have c1:=hxa.c1;have cf:=hxa.fr 1;clear hxa hoa)
     | (go_at_call 57;(with_reducible refine (HP0.out _ HX.out HO.out).mono ?_);(rintro r wa ⟨rfl,hxa,hoa⟩);(try dsimp only);have HX:=lH hxa;have HO:=lH hoa;have c1:=hxa.c1;have cf:=hxa.fr 1;clear hxa hoa))
    go_ret
    exact ⟨rfl,HX.out.setI (p + 1) _ HQ1.out,HO.out.set_ 1 _⟩
   ·obtain ⟨a1,a2,a3,a4,a5⟩:=hy1
    have hE:escZ zs p = (y,p + 1):=by simp [escZ,hy,a1,a2,a3,a4,a5,a6,a7,hob]
    rw [hE]
    have b1:(y == 110) = false:=beq_eq_false_iff_ne.2 a1
    have b2:(y == 114) = false:=beq_eq_false_iff_ne.2 a2
    have b3:(y == 116) = false:=beq_eq_false_iff_ne.2 a3
    have b4:(y == 98) = false:=beq_eq_false_iff_ne.2 a4
    have b5:(y == 102) = false:=beq_eq_false_iff_ne.2 a5
    clear hE hy a1 a2 a3 a4 a5 a6 a7 hbd hy0 hob
    rcases hgs with hg | ⟨hg,hg2⟩
    ·go_enter Tryz.func134,Tryz.ntmps134
     go_wp2_with (first
      | (go_at_call 61;(with_reducible refine HEO.out.mono ?_);(rintro r wa ⟨rfl,hxa,hoa⟩);(try dsimp only);have HX:=lH hxa;have HO:=lH hoa;have c1:=hxa.c1;have cf:=hxa.fr 1;clear hxa hoa)
      | (go_at_call 57;(with_reducible refine (HP0.out _ HX.out HO.out).mono ?_);(rintro r wa ⟨rfl,hxa,hoa⟩);(try dsimp only);have HX:=lH hxa;have HO:=lH hoa;have c1:=hxa.c1;have cf:=hxa.fr 1;clear hxa hoa))
     go_ret
     exact ⟨rfl,HX.out.setI (p + 1) _ HQ1.out,HO.out.set_ 1 _⟩
    ·go_enter Tryz.func134,Tryz.ntmps134
     go_wp2_with (first
      | (go_at_call 61;(with_reducible refine HEO.out.mono ?_);(rintro r wa ⟨rfl,hxa,hoa⟩);(try dsimp only);have HX:=lH hxa;have HO:=lH hoa;have c1:=hxa.c1;have cf:=hxa.fr 1;clear hxa hoa)
      | (go_at_call 57;(with_reducible refine (HP0.out _ HX.out HO.out).mono ?_);(rintro r wa ⟨rfl,hxa,hoa⟩);(try dsimp only);have HX:=lH hxa;have HO:=lH hoa;have c1:=hxa.c1;have cf:=hxa.fr 1;clear hxa hoa))
     go_ret
     exact ⟨rfl,HX.out.setI (p + 1) _ HQ1.out,HO.out.set_ 1 _⟩
end
section
open Go.RowKit
set_option linter.unusedVariables false
set_option maxRecDepth 100000
theorem rdeol {w W:World} {m n c q B:Nat} {T:TypeId} {X:List Value} {A:Option Addr} {v:Value} {out zs:List Int} (x:DS w W m T X A n c q v out) (hb:Byt w B A n c zs) (hB:B ≤ m) (hn:n ≤ 1000000) (hq:q ≤ 1000001) :
  Calls Tryz.prog 61 #[.pointer (some ⟨m,0,none⟩)] W fun e w'=>e = .returned (.bool (eolZ zs q).1) ∧ DS w w' m T X A n c (eolZ zs q).2 v out :=
 (reolC m n c q B T X A zs W x.ld (hb.only x.ol hB (Nat.le_of_lt x.lm)) hB hn hq).mono fun _ _ ⟨h1,h2,h3⟩=>⟨h1,x.moved h2 h3⟩
theorem rdesc {w W:World} {m n c q B:Nat} {T:TypeId} {X:List Value} {A:Option Addr} {v:Value} {out zs:List Int} (x:DS w W m T X A n c q v out) (hb:Byt w B A n c zs) (hB:B ≤ m) (hn:n ≤ 1000000) (hq:q < n) :
  Calls Tryz.prog 134 #[.pointer (some ⟨m,0,none⟩)] W fun e w'=>e = .returned (.int .i64 (escZ zs q).1) ∧ DS w w' m T X A n c (escZ zs q).2 v out :=
 (rescC m n c q B T X A zs W x.ld (hb.only x.ol hB (Nat.le_of_lt x.lm)) hB hn hq).mono fun _ _ ⟨h1,h2,h3⟩=>⟨h1,x.moved h2 h3⟩
set_option maxHeartbeats 8000000 in
theorem rtextC (m n c p B:Nat) (T:TypeId) (X:List Value) (A:Option Addr) (zs:List Int) (w:World) (h:LD w m T X A n c p) (hb:Byt w B A n c zs) (hB:B ≤ m) (hn:n ≤ 1000000) (hp:p ≤ n) :
  Calls Tryz.prog 119 #[.pointer (some ⟨m,0,none⟩)] w (DnP m T X A n c (textF zs (zs.length + 1) p 1 []) w):=by
 have HD0:=lH (DS.start h)
 have HB:=lH hb
 have HL:=lH hb.len
 have HPP:=lH (fun q (hq:q ≤ n + 5) W v out (x:DS w W m T X A n c q v out)=>rdk0 x hb hB hn (by omega))
 have HEE:=lH (fun q (hq:q ≤ n) W v out (x:DS w W m T X A n c q v out)=>rdeol x hb hB hn (by omega))
 have HSS:=lH (fun q (hq:q < n) W v out (x:DS w W m T X A n c q v out)=>rdesc x hb hB hn hq)
 obtain ⟨R,hR⟩:∃ R,textF zs (zs.length + 1) p 1 [] = R:=⟨_,rfl⟩
 rw [hR]
 have HR:=lH hR
 clear h hb hR
 go_enter Tryz.func119,Tryz.ntmps119
 go_wp2_with fail
 go_loopg [4,5,6] (n + 1) (fun gk s4 s5 s6 wr=>∃ (q:Nat) (k:Int) (out:List Int),s5 = .int .i64 k ∧ Hid (DS w wr m T X A n c q s4 out) ∧ Hid (textF zs gk q k out = R) ∧ Hid (n < gk + q) ∧ Hid (q ≤ n) ∧ Hid (out.length ≤ 32767) ∧ Hid (1 ≤ k ∧ k ≤ q + 1))
 case atStart=>exact ⟨p,1,[],rfl,HD0,lH (by rw [← HL.out];exact HR.out),lH (by omega),lH hp,lH (by simp),lH (by omega)⟩
 case round =>
  obtain ⟨q,k,out,rfl,HD,HF,HG,HQ,HOL,HK⟩:=hrel
  have hgk:∃ f,gk = f + 1:=⟨gk - 1,by have:=HQ.out;have:=HG.out;omega⟩
  obtain ⟨f,rfl⟩:=hgk
  obtain ⟨A',c',rfl,_,_⟩:=HD.out.byt
  have HP0:=lH (HPP.out q (by have:=HQ.out;omega))
  have hbd:=peekZ_bd zs HB.out.rng (q:Int)
  obtain ⟨y,hy⟩:∃ y,peekZ zs (q:Int) = y:=⟨_,rfl⟩
  rw [hy] at HP0 hbd
  have HY:=lH hy
  by_cases hlt:y < 0
  ·obtain rfl:y = -1:=by omega
   have HR2:Hid (R.1 = 2):=lH (text_end zs f q k out R HF.out (by
    rcases Nat.lt_or_ge q zs.length with hq | hq
    ·exfalso
     have h1:=peekZ_in zs q hq
     rw [getD_eq zs q hq] at h1
     have:=(HB.out.rng _ (List.getElem_mem hq)).1
     omega
    ·exact hq))
   clear hlt hbd hy
   go_wp2_with (first
    | (go_at_call 57;(with_reducible refine (HP0.out _ _ _ (HD.out)).mono ?_);(rintro r wa ⟨rfl,hda⟩);(try dsimp only);have HD:=lH hda;have c1:=hda.ld.c1;have cf:=hda.ld.fr 1;clear hda))
   go_ret2
   exact DnP.bad HD.out 2 HR2.out (by decide)
  ·have hq:q < zs.length:=peekZ_lt zs q (by omega)
   have hqn:q < n:=by have:=HL.out;omega
   have HQL:=lH hq
   have HQN:=lH hqn
   have hkk:=HK.out
   have w1:IntKind.i64.wrap ((q:Int) + 1) = (q:Int) + 1:=IntWalk.i64_in _ (by omega)
   have HQ1:Hid ((q:Int) + 1 = ((q + 1:Nat):Int)):=lH (by omega)
   have c1:=HD.out.ld.c1
   have cf:=HD.out.ld.fr 1
   have hneg:decide (y < 0) = false:=decide_eq_false hlt
   clear hq hqn
   obtain rfl | rfl | rfl | rfl | rfl | hy1:y = 40 ∨ y = 41 ∨ y = 13 ∨ y = 10 ∨ y = 92 ∨ (y ≠ 40 ∧ y ≠ 41 ∧ y ≠ 13 ∧ y ≠ 10 ∧ y ≠ 92):=by omega
   ·have hpc:pcZ zs q = (40,q + 1,1):=by simp [pcZ,hy]
    have HEO:=lH (HEE.out q HQ.out)
    unfold eolZ at HEO
    rw [hy] at HEO
    rw [if_neg (by decide),if_neg (by decide)] at HEO
    obtain ⟨k2,hk2⟩:∃ k2,k + 1 = k2:=⟨_,rfl⟩
    have HK2:=lH (show k2 = k + 1 by omega)
    have wk:IntKind.i64.wrap (k + 1) = k2:=by rw [show k + 1 = k2 by omega];exact IntWalk.i64_in _ (by have:=HQ.out;omega)
    have HQQ:=lH (show q < q + 1 ∧ q + 1 ≤ n from ⟨by omega,HQN.out⟩)
    rcases text_step zs f q k k2 out R 40 _ 1 HF.out HQL.out hpc hk2 with ⟨hz,hE⟩ | ⟨hz,hc0,hF⟩ | ⟨hz,hc0,h127,hE⟩ | ⟨hz,hc0,h127,hF⟩
    ·omega
    ·omega
    ·have hzb:(k2 == 0) = false:=beq_eq_false_iff_ne.2 hz
     have HZ:=lH hz
     have HE:=lH hE
     have hbig:decide ((out.length:Int) ≥ 32767) = true:=decide_eq_true (by omega)
     have hbig2:decide (32767 ≤ (out.length:Int)) = true:=decide_eq_true (by omega)
     have hbig3:decide (32767 ≤ out.length) = true:=decide_eq_true (by omega)
     have HCB:=lH (show 0 ≤ (40:Int) ∧ (40:Int) < 256 by omega)
     clear hE hpc hz h127 hk2 hc0
     go_wp2_with (first
      | (go_at_call 57;(with_reducible refine (HP0.out _ _ _ (HD.out)).mono ?_);(rintro r wa ⟨rfl,hda⟩);(try dsimp only);have HD:=lH hda;have c1:=hda.ld.c1;have cf:=hda.ld.fr 1;clear hda)
      | (go_at_call 61;(with_reducible refine (HEO.out _ _ _ HD.out).mono ?_);(rintro r wa ⟨rfl,hda⟩);(try dsimp only);have HD:=lH hda;have c1:=hda.ld.c1;have cf:=hda.ld.fr 1;clear hda))
     go_ret2
     exact DnP.bad (HD.out.setI (q + 1) _ HQ1.out) 3 HE.out (by decide)
    ·have hzb:(k2 == 0) = false:=beq_eq_false_iff_ne.2 hz
     have HZ:=lH hz
     have HF2:=lH hF
     have H127:=lH h127
     have hbig:decide ((out.length:Int) ≥ 32767) = false:=decide_eq_false (by omega)
     have hbig2:decide (32767 ≤ (out.length:Int)) = false:=decide_eq_false (by omega)
     have hbig3:decide (32767 ≤ out.length) = false:=decide_eq_false (by omega)
     have HCB:=lH (show 0 ≤ (40:Int) ∧ (40:Int) < 256 by omega)
     clear hF hpc hz h127 hk2 hc0
     go_upto_region 23 with (first
      | (go_at_call 57;(with_reducible refine (HP0.out _ _ _ (HD.out)).mono ?_);(rintro r wa ⟨rfl,hda⟩);(try dsimp only);have HD:=lH hda;have c1:=hda.ld.c1;have cf:=hda.ld.fr 1;clear hda)
      | (go_at_call 61;(with_reducible refine (HEO.out _ _ _ HD.out).mono ?_);(rintro r wa ⟨rfl,hda⟩);(try dsimp only);have HD:=lH hda;have c1:=hda.ld.c1;have cf:=hda.ld.fr 1;clear hda))
     have hd:=HD.out.setI (q + 1) _ HQ1.out
     obtain ⟨wb,hwb⟩:∃ wb,wa.setCell ⟨m,1,none⟩ (.int .i64 ((q:Int) + 1)) = wb:=⟨_,rfl⟩
     rw [hwb] at hd
     rw [hwb]
     have HD:=lH hd
     clear hwb hd
     go_wp2_with (first
      | (at_builtin;obtain ⟨v6,w6,hrun,hs6,A6,c6,rfl⟩:=HD.out.room 40 HCB.out (by have:=HOL.out;omega);refine Lib.wpList_append_run_sl _ rfl (.tmp 57) (.tmp 60) 23 rfl _ _ rfl rfl hrun ?_;clear hrun;have HD6:=lH hs6;clear hs6))
     go_roundg f
     case rel=>exact ⟨_,k2,_,rfl,HD6,HF2,lH (by have h1:=HG.out;have h2:=HQQ.out;omega),lH (by have h2:=HQQ.out;omega),lH (by rw [List.length_append];have:=H127.out;simp;omega),lH (by have h1:=HK.out;have h2:=HQQ.out;have h3:=HK2.out;have h4:=HZ.out;omega)⟩
     case measure=>omega
   ·have hpc:pcZ zs q = (41,q + 1,-1):=by simp [pcZ,hy]
    have HEO:=lH (HEE.out q HQ.out)
    unfold eolZ at HEO
    rw [hy] at HEO
    rw [if_neg (by decide),if_neg (by decide)] at HEO
    obtain ⟨k2,hk2⟩:∃ k2,k + -1 = k2:=⟨_,rfl⟩
    have HK2:=lH (show k2 = k - 1 by omega)
    have wk:IntKind.i64.wrap (k - 1) = k2:=by rw [show k - 1 = k2 by omega];exact IntWalk.i64_in _ (by have:=HQ.out;omega)
    have HQQ:=lH (show q < q + 1 ∧ q + 1 ≤ n from ⟨by omega,HQN.out⟩)
    rcases text_step zs f q k k2 out R 41 _ (-1) HF.out HQL.out hpc hk2 with ⟨hz,hE⟩ | ⟨hz,hc0,hF⟩ | ⟨hz,hc0,h127,hE⟩ | ⟨hz,hc0,h127,hF⟩
    ·have HE:=lH hE
     have hzb:(k2 == 0) = true:=beq_iff_eq.2 hz
     clear hE hpc hz hk2
     go_wp2_with (first
      | (go_at_call 57;(with_reducible refine (HP0.out _ _ _ (HD.out)).mono ?_);(rintro r wa ⟨rfl,hda⟩);(try dsimp only);have HD:=lH hda;have c1:=hda.ld.c1;have cf:=hda.ld.fr 1;clear hda)
      | (go_at_call 61;(with_reducible refine (HEO.out _ _ _ HD.out).mono ?_);(rintro r wa ⟨rfl,hda⟩);(try dsimp only);have HD:=lH hda;have c1:=hda.ld.c1;have cf:=hda.ld.fr 1;clear hda))
     go_ret2
     exact DnP.good (HD.out.setI (q + 1) _ HQ1.out) HE.out
    ·omega
    ·have hzb:(k2 == 0) = false:=beq_eq_false_iff_ne.2 hz
     have HZ:=lH hz
     have HE:=lH hE
     have hbig:decide ((out.length:Int) ≥ 32767) = true:=decide_eq_true (by omega)
     have hbig2:decide (32767 ≤ (out.length:Int)) = true:=decide_eq_true (by omega)
     have hbig3:decide (32767 ≤ out.length) = true:=decide_eq_true (by omega)
     have HCB:=lH (show 0 ≤ (41:Int) ∧ (41:Int) < 256 by omega)
     clear hE hpc hz h127 hk2 hc0
     go_wp2_with (first
      | (go_at_call 57;(with_reducible refine (HP0.out _ _ _ (HD.out)).mono ?_);(rintro r wa ⟨rfl,hda⟩);(try dsimp only);have HD:=lH hda;have c1:=hda.ld.c1;have cf:=hda.ld.fr 1;clear hda)
      | (go_at_call 61;(with_reducible refine (HEO.out _ _ _ HD.out).mono ?_);(rintro r wa ⟨rfl,hda⟩);(try dsimp only);have HD:=lH hda;have c1:=hda.ld.c1;have cf:=hda.ld.fr 1;clear hda))
     go_ret2
     exact DnP.bad (HD.out.setI (q + 1) _ HQ1.out) 3 HE.out (by decide)
    ·have hzb:(k2 == 0) = false:=beq_eq_false_iff_ne.2 hz
     have HZ:=lH hz
     have HF2:=lH hF
     have H127:=lH h127
     have hbig:decide ((out.length:Int) ≥ 32767) = false:=decide_eq_false (by omega)
     have hbig2:decide (32767 ≤ (out.length:Int)) = false:=decide_eq_false (by omega)
     have hbig3:decide (32767 ≤ out.length) = false:=decide_eq_false (by omega)
     have HCB:=lH (show 0 ≤ (41:Int) ∧ (41:Int) < 256 by omega)
     clear hF hpc hz h127 hk2 hc0
     go_upto_region 23 with (first
      | (go_at_call 57;(with_reducible refine (HP0.out _ _ _ (HD.out)).mono ?_);(rintro r wa ⟨rfl,hda⟩);(try dsimp only);have HD:=lH hda;have c1:=hda.ld.c1;have cf:=hda.ld.fr 1;clear hda)
      | (go_at_call 61;(with_reducible refine (HEO.out _ _ _ HD.out).mono ?_);(rintro r wa ⟨rfl,hda⟩);(try dsimp only);have HD:=lH hda;have c1:=hda.ld.c1;have cf:=hda.ld.fr 1;clear hda))
     have hd:=HD.out.setI (q + 1) _ HQ1.out
     obtain ⟨wb,hwb⟩:∃ wb,wa.setCell ⟨m,1,none⟩ (.int .i64 ((q:Int) + 1)) = wb:=⟨_,rfl⟩
     rw [hwb] at hd
     rw [hwb]
     have HD:=lH hd
     clear hwb hd
     go_wp2_with (first
      | (at_builtin;obtain ⟨v6,w6,hrun,hs6,A6,c6,rfl⟩:=HD.out.room 41 HCB.out (by have:=HOL.out;omega);refine Lib.wpList_append_run_sl _ rfl (.tmp 57) (.tmp 60) 23 rfl _ _ rfl rfl hrun ?_;clear hrun;have HD6:=lH hs6;clear hs6))
     go_roundg f
     case rel=>exact ⟨_,k2,_,rfl,HD6,HF2,lH (by have h1:=HG.out;have h2:=HQQ.out;omega),lH (by have h2:=HQQ.out;omega),lH (by rw [List.length_append];have:=H127.out;simp;omega),lH (by have h1:=HK.out;have h2:=HQQ.out;have h3:=HK2.out;have h4:=HZ.out;omega)⟩
     case measure=>omega
   ·have hpc:pcZ zs q = (10,if peekZ zs ((q + 1:Nat):Int) = 10 then q + 2 else q + 1,0):=by simp [pcZ,hy]
    have HEO:=lH (HEE.out q HQ.out)
    unfold eolZ at HEO
    rw [hy] at HEO
    rw [if_pos rfl] at HEO
    have hk2:k + 0 = k:=by omega
    have HK2:=lH (show k = k from rfl)
    have HQQ:Hid ((q < if peekZ zs ((q + 1:Nat):Int) = 10 then q + 2 else q + 1) ∧ (if peekZ zs ((q + 1:Nat):Int) = 10 then q + 2 else q + 1) ≤ n):=lH (by
     have h2:=HQN.out
     have h3:=HL.out
     by_cases h1:peekZ zs ((q + 1:Nat):Int) = 10
     ·have:=peekZ_lt zs (q + 1) (by omega)
      rw [if_pos h1];omega
     ·rw [if_neg h1];omega)
    obtain ⟨qq,hqq⟩:∃ qq,(if peekZ zs ((q + 1:Nat):Int) = 10 then q + 2 else q + 1) = qq:=⟨_,rfl⟩
    rw [hqq] at HEO HQQ hpc
    clear hqq
    rcases text_step zs f q k k out R 10 _ 0 HF.out HQL.out hpc hk2 with ⟨hz,hE⟩ | ⟨hz,hc0,hF⟩ | ⟨hz,hc0,h127,hE⟩ | ⟨hz,hc0,h127,hF⟩
    ·omega
    ·omega
    ·have hzb:(k == 0) = false:=beq_eq_false_iff_ne.2 hz
     have HZ:=lH hz
     have HE:=lH hE
     have hbig:decide ((out.length:Int) ≥ 32767) = true:=decide_eq_true (by omega)
     have hbig2:decide (32767 ≤ (out.length:Int)) = true:=decide_eq_true (by omega)
     have hbig3:decide (32767 ≤ out.length) = true:=decide_eq_true (by omega)
     have HCB:=lH (show 0 ≤ (10:Int) ∧ (10:Int) < 256 by omega)
     clear hE hpc hz h127 hk2 hc0
     go_wp2_with (first
      | (go_at_call 57;(with_reducible refine (HP0.out _ _ _ (HD.out)).mono ?_);(rintro r wa ⟨rfl,hda⟩);(try dsimp only);have HD:=lH hda;have c1:=hda.ld.c1;have cf:=hda.ld.fr 1;clear hda)
      | (go_at_call 61;(with_reducible refine (HEO.out _ _ _ HD.out).mono ?_);(rintro r wa ⟨rfl,hda⟩);(try dsimp only);have HD:=lH hda;have c1:=hda.ld.c1;have cf:=hda.ld.fr 1;clear hda))
     go_ret2
     exact DnP.bad HD.out 3 HE.out (by decide)
    ·have hzb:(k == 0) = false:=beq_eq_false_iff_ne.2 hz
     have HZ:=lH hz
     have HF2:=lH hF
     have H127:=lH h127
     have hbig:decide ((out.length:Int) ≥ 32767) = false:=decide_eq_false (by omega)
     have hbig2:decide (32767 ≤ (out.length:Int)) = false:=decide_eq_false (by omega)
     have hbig3:decide (32767 ≤ out.length) = false:=decide_eq_false (by omega)
     have HCB:=lH (show 0 ≤ (10:Int) ∧ (10:Int) < 256 by omega)
     clear hF hpc hz h127 hk2 hc0
     go_upto_region 23 with (first
      | (go_at_call 57;(with_reducible refine (HP0.out _ _ _ (HD.out)).mono ?_);(rintro r wa ⟨rfl,hda⟩);(try dsimp only);have HD:=lH hda;have c1:=hda.ld.c1;have cf:=hda.ld.fr 1;clear hda)
      | (go_at_call 61;(with_reducible refine (HEO.out _ _ _ HD.out).mono ?_);(rintro r wa ⟨rfl,hda⟩);(try dsimp only);have HD:=lH hda;have c1:=hda.ld.c1;have cf:=hda.ld.fr 1;clear hda))
     go_wp2_with (first
      | (at_builtin;obtain ⟨v6,w6,hrun,hs6,A6,c6,rfl⟩:=HD.out.room 10 HCB.out (by have:=HOL.out;omega);refine Lib.wpList_append_run_sl _ rfl (.tmp 57) (.tmp 60) 23 rfl _ _ rfl rfl hrun ?_;clear hrun;have HD6:=lH hs6;clear hs6))
     go_roundg f
     case rel=>exact ⟨_,k,_,rfl,HD6,HF2,lH (by have h1:=HG.out;have h2:=HQQ.out;omega),lH (by have h2:=HQQ.out;omega),lH (by rw [List.length_append];have:=H127.out;simp;omega),lH (by have h1:=HK.out;have h2:=HQQ.out;have h3:=HK2.out;have h4:=HZ.out;omega)⟩
     case measure=>omega
   ·have hpc:pcZ zs q = (10,q + 1,0):=by simp [pcZ,hy]
    have HEO:=lH (HEE.out q HQ.out)
    unfold eolZ at HEO
    rw [hy] at HEO
    rw [if_neg (by decide),if_pos rfl] at HEO
    have hk2:k + 0 = k:=by omega
    have HK2:=lH (show k = k from rfl)
    have HQQ:=lH (show q < q + 1 ∧ q + 1 ≤ n from ⟨by omega,HQN.out⟩)
    rcases text_step zs f q k k out R 10 _ 0 HF.out HQL.out hpc hk2 with ⟨hz,hE⟩ | ⟨hz,hc0,hF⟩ | ⟨hz,hc0,h127,hE⟩ | ⟨hz,hc0,h127,hF⟩
    ·omega
    ·omega
    ·have hzb:(k == 0) = false:=beq_eq_false_iff_ne.2 hz
     have HZ:=lH hz
     have HE:=lH hE
     have hbig:decide ((out.length:Int) ≥ 32767) = true:=decide_eq_true (by omega)
     have hbig2:decide (32767 ≤ (out.length:Int)) = true:=decide_eq_true (by omega)
     have hbig3:decide (32767 ≤ out.length) = true:=decide_eq_true (by omega)
     have HCB:=lH (show 0 ≤ (10:Int) ∧ (10:Int) < 256 by omega)
     clear hE hpc hz h127 hk2 hc0
     go_wp2_with (first
      | (go_at_call 57;(with_reducible refine (HP0.out _ _ _ (HD.out)).mono ?_);(rintro r wa ⟨rfl,hda⟩);(try dsimp only);have HD:=lH hda;have c1:=hda.ld.c1;have cf:=hda.ld.fr 1;clear hda)
      | (go_at_call 61;(with_reducible refine (HEO.out _ _ _ HD.out).mono ?_);(rintro r wa ⟨rfl,hda⟩);(try dsimp only);have HD:=lH hda;have c1:=hda.ld.c1;have cf:=hda.ld.fr 1;clear hda))
     go_ret2
     exact DnP.bad HD.out 3 HE.out (by decide)
    ·have hzb:(k == 0) = false:=beq_eq_false_iff_ne.2 hz
     have HZ:=lH hz
     have HF2:=lH hF
     have H127:=lH h127
     have hbig:decide ((out.length:Int) ≥ 32767) = false:=decide_eq_false (by omega)
     have hbig2:decide (32767 ≤ (out.length:Int)) = false:=decide_eq_false (by omega)
     have hbig3:decide (32767 ≤ out.length) = false:=decide_eq_false (by omega)
     have HCB:=lH (show 0 ≤ (10:Int) ∧ (10:Int) < 256 by omega)
     clear hF hpc hz h127 hk2 hc0
     go_upto_region 23 with (first
      | (go_at_call 57;(with_reducible refine (HP0.out _ _ _ (HD.out)).mono ?_);(rintro r wa ⟨rfl,hda⟩);(try dsimp only);have HD:=lH hda;have c1:=hda.ld.c1;have cf:=hda.ld.fr 1;clear hda)
      | (go_at_call 61;(with_reducible refine (HEO.out _ _ _ HD.out).mono ?_);(rintro r wa ⟨rfl,hda⟩);(try dsimp only);have HD:=lH hda;have c1:=hda.ld.c1;have cf:=hda.ld.fr 1;clear hda))
     go_wp2_with (first
      | (at_builtin;obtain ⟨v6,w6,hrun,hs6,A6,c6,rfl⟩:=HD.out.room 10 HCB.out (by have:=HOL.out;omega);refine Lib.wpList_append_run_sl _ rfl (.tmp 57) (.tmp 60) 23 rfl _ _ rfl rfl hrun ?_;clear hrun;have HD6:=lH hs6;clear hs6))
     go_roundg f
     case rel=>exact ⟨_,k,_,rfl,HD6,HF2,lH (by have h1:=HG.out;have h2:=HQQ.out;omega),lH (by have h2:=HQQ.out;omega),lH (by rw [List.length_append];have:=H127.out;simp;omega),lH (by have h1:=HK.out;have h2:=HQQ.out;have h3:=HK2.out;have h4:=HZ.out;omega)⟩
     case measure=>omega
   ·by_cases h2:q + 1 < n
    ·have hpc:pcZ zs q = ((escZ zs (q + 1)).1,(escZ zs (q + 1)).2,0):=by
      have:=HL.out
      rw [pcZ,if_pos hy,if_neg (by omega)]
     have hes:=esc_bd zs HB.out.rng (q + 1) (by have:=HL.out;omega)
     have hy2:0 ≤ peekZ zs ((q + 1:Nat):Int):=by
      have:=HL.out
      rw [peekZ_in zs (q + 1) (by omega),getD_eq zs (q + 1) (by omega)]
      exact (HB.out.rng _ (List.getElem_mem _)).1
     have HP1:=lH (HPP.out (q + 1) (by omega))
     obtain ⟨y2,hyy⟩:∃ y,peekZ zs ((q + 1:Nat):Int) = y:=⟨_,rfl⟩
     rw [hyy] at HP1 hy2
     have hneg2:decide (y2 < 0) = false:=decide_eq_false (by omega)
     have HES:=lH (HSS.out (q + 1) h2)
     have hk2:k + 0 = k:=by omega
     have HK2:=lH (show k = k from rfl)
     obtain ⟨⟨x1,qq⟩,hX⟩:∃ X,escZ zs (q + 1) = X:=⟨_,rfl⟩
     rw [hX] at hpc hes HES
     dsimp only at hpc hes
     have HX1:=lH (show -1 ≤ x1 ∧ x1 < 256 from ⟨hes.1,hes.2.1⟩)
     have HQQ:=lH (show q < qq ∧ qq ≤ n by have:=HL.out;omega)
     clear hX hyy hes h2
     rcases text_step zs f q k k out R x1 _ 0 HF.out HQL.out hpc hk2 with ⟨hz,hE⟩ | ⟨hz,hc0,hF⟩ | ⟨hz,hc0,h127,hE⟩ | ⟨hz,hc0,h127,hF⟩
     ·omega
     ·have HF2:=lH hF
      have hzb:(k == 0) = false:=beq_eq_false_iff_ne.2 hz
      have hcb:decide (0 ≤ x1) = false:=decide_eq_false (by omega)
      clear hF hpc hz hk2
      go_wp2_with (first
       | (go_at_call 57;(with_reducible refine (HP0.out _ _ _ (HD.out)).mono ?_);(rintro r wa ⟨rfl,hda⟩);(try dsimp only);have HD:=lH hda;have c1:=hda.ld.c1;have cf:=hda.ld.fr 1;clear hda)
       | (go_at_call 57;(with_reducible refine (HP1.out _ _ _ (HD.out.setI (q + 1) _ HQ1.out)).mono ?_);(rintro r wa ⟨rfl,hda⟩);(try dsimp only);have HD:=lH hda;have c1:=hda.ld.c1;have cf:=hda.ld.fr 1;clear hda)
       | (go_at_call 134;(with_reducible refine (HES.out _ _ _ HD.out).mono ?_);(rintro r wa ⟨rfl,hda⟩);(try dsimp only);have HD:=lH hda;have c1:=hda.ld.c1;have cf:=hda.ld.fr 1;clear hda))
      go_roundg f
      case rel=>exact ⟨_,k,out,rfl,HD,HF2,lH (by have h1:=HG.out;have h2:=HQQ.out;omega),lH (by have h2:=HQQ.out;omega),HOL,lH (by have h1:=HK.out;have h2:=HQQ.out;have h3:=HK2.out;omega)⟩
      case measure=>omega
     ·have hzb:(k == 0) = false:=beq_eq_false_iff_ne.2 hz
      have HZ:=lH hz
      have HE:=lH hE
      have hbig:decide ((out.length:Int) ≥ 32767) = true:=decide_eq_true (by omega)
      have hbig2:decide (32767 ≤ (out.length:Int)) = true:=decide_eq_true (by omega)
      have hbig3:decide (32767 ≤ out.length) = true:=decide_eq_true (by omega)
      have hcb:decide (0 ≤ x1) = true:=decide_eq_true (by omega)
      have hcb2:0 ≤ x1:=by omega
      have wV:IntKind.u8.wrap x1 = x1:=IntWalk.u8_in _ (by have:=HX1.out;omega)
      have HCB:=lH (show 0 ≤ (x1:Int) ∧ (x1:Int) < 256 by have:=HX1.out;omega)
      clear hE hpc hz h127 hk2 hc0
      go_wp2_with (first
       | (go_at_call 57;(with_reducible refine (HP0.out _ _ _ (HD.out)).mono ?_);(rintro r wa ⟨rfl,hda⟩);(try dsimp only);have HD:=lH hda;have c1:=hda.ld.c1;have cf:=hda.ld.fr 1;clear hda)
       | (go_at_call 57;(with_reducible refine (HP1.out _ _ _ (HD.out.setI (q + 1) _ HQ1.out)).mono ?_);(rintro r wa ⟨rfl,hda⟩);(try dsimp only);have HD:=lH hda;have c1:=hda.ld.c1;have cf:=hda.ld.fr 1;clear hda)
       | (go_at_call 134;(with_reducible refine (HES.out _ _ _ HD.out).mono ?_);(rintro r wa ⟨rfl,hda⟩);(try dsimp only);have HD:=lH hda;have c1:=hda.ld.c1;have cf:=hda.ld.fr 1;clear hda))
      go_ret2
      exact DnP.bad HD.out 3 HE.out (by decide)
     ·have hzb:(k == 0) = false:=beq_eq_false_iff_ne.2 hz
      have HZ:=lH hz
      have HF2:=lH hF
      have H127:=lH h127
      have hbig:decide ((out.length:Int) ≥ 32767) = false:=decide_eq_false (by omega)
      have hbig2:decide (32767 ≤ (out.length:Int)) = false:=decide_eq_false (by omega)
      have hbig3:decide (32767 ≤ out.length) = false:=decide_eq_false (by omega)
      have hcb:decide (0 ≤ x1) = true:=decide_eq_true (by omega)
      have hcb2:0 ≤ x1:=by omega
      have wV:IntKind.u8.wrap x1 = x1:=IntWalk.u8_in _ (by have:=HX1.out;omega)
      have HCB:=lH (show 0 ≤ (x1:Int) ∧ (x1:Int) < 256 by have:=HX1.out;omega)
      clear hF hpc hz h127 hk2 hc0
      go_upto_region 23 with (first
       | (go_at_call 57;(with_reducible refine (HP0.out _ _ _ (HD.out)).mono ?_);(rintro r wa ⟨rfl,hda⟩);(try dsimp only);have HD:=lH hda;have c1:=hda.ld.c1;have cf:=hda.ld.fr 1;clear hda)
       | (go_at_call 57;(with_reducible refine (HP1.out _ _ _ (HD.out.setI (q + 1) _ HQ1.out)).mono ?_);(rintro r wa ⟨rfl,hda⟩);(try dsimp only);have HD:=lH hda;have c1:=hda.ld.c1;have cf:=hda.ld.fr 1;clear hda)
       | (go_at_call 134;(with_reducible refine (HES.out _ _ _ HD.out).mono ?_);(rintro r wa ⟨rfl,hda⟩);(try dsimp only);have HD:=lH hda;have c1:=hda.ld.c1;have cf:=hda.ld.fr 1;clear hda))
      go_wp2_with (first
       | (at_builtin;obtain ⟨v6,w6,hrun,hs6,A6,c6,rfl⟩:=HD.out.room x1 HCB.out (by have:=HOL.out;omega);refine Lib.wpList_append_run_sl _ rfl (.tmp 57) (.tmp 60) 23 rfl _ _ rfl rfl hrun ?_;clear hrun;have HD6:=lH hs6;clear hs6))
      go_roundg f
      case rel=>exact ⟨_,k,_,rfl,HD6,HF2,lH (by have h1:=HG.out;have h2:=HQQ.out;omega),lH (by have h2:=HQQ.out;omega),lH (by rw [List.length_append];have:=H127.out;simp;omega),lH (by have h1:=HK.out;have h2:=HQQ.out;have h3:=HK2.out;have h4:=HZ.out;omega)⟩
      case measure=>omega
    ·have HRE:Hid (R.1 = 2):=lH (by
      have h1:=HL.out
      have h3:=HF.out
      have h4:∃ g,f = g + 1:=⟨f - 1,by have:=HG.out;have:=HQN.out;omega⟩
      obtain ⟨g,rfl⟩:=h4
      have hpc:pcZ zs q = (-1,q + 1,0):=by rw [pcZ,if_pos hy,if_pos (by omega)]
      rcases text_step zs (g + 1) q k k out R (-1) _ 0 h3 HQL.out hpc (by omega) with ⟨hz,_⟩ | ⟨_,_,hF⟩ | ⟨_,hc0,_⟩ | ⟨_,hc0,_⟩
      ·omega
      ·exact text_end zs g (q + 1) k out R hF (by omega)
      ·omega
      ·omega)
     have HP1:=lH (HPP.out (q + 1) (by have:=HQ.out;omega))
     rw [peekZ_nat zs (q + 1) (by have:=HL.out;omega)] at HP1
     clear h2 hy
     go_wp2_with (first
      | (go_at_call 57;(with_reducible refine (HP0.out _ _ _ (HD.out)).mono ?_);(rintro r wa ⟨rfl,hda⟩);(try dsimp only);have HD:=lH hda;have c1:=hda.ld.c1;have cf:=hda.ld.fr 1;clear hda)
      | (go_at_call 57;(with_reducible refine (HP1.out _ _ _ (HD.out.setI (q + 1) _ HQ1.out)).mono ?_);(rintro r wa ⟨rfl,hda⟩);(try dsimp only);have HD:=lH hda;have c1:=hda.ld.c1;have cf:=hda.ld.fr 1;clear hda))
     go_ret2
     exact DnP.bad HD.out 2 HRE.out (by decide)
   ·obtain ⟨a1,a2,a3,a4,a5⟩:=hy1
    have hpc:pcZ zs q = (y,q + 1,0):=by simp [pcZ,hy,a1,a2,a3,a5]
    have HEO:=lH (HEE.out q HQ.out)
    unfold eolZ at HEO
    rw [hy] at HEO
    rw [if_neg (by exact a3),if_neg (by exact a4)] at HEO
    have hk2:k + 0 = k:=by omega
    have HK2:=lH (show k = k from rfl)
    have b1:(y == 40) = false:=beq_eq_false_iff_ne.2 a1
    have b2:(y == 41) = false:=beq_eq_false_iff_ne.2 a2
    have b5:(y == 92) = false:=beq_eq_false_iff_ne.2 a5
    clear a1 a2 a3 a4 a5
    have HQQ:=lH (show q < q + 1 ∧ q + 1 ≤ n from ⟨by omega,HQN.out⟩)
    rcases text_step zs f q k k out R y _ 0 HF.out HQL.out hpc hk2 with ⟨hz,hE⟩ | ⟨hz,hc0,hF⟩ | ⟨hz,hc0,h127,hE⟩ | ⟨hz,hc0,h127,hF⟩
    ·omega
    ·omega
    ·have hzb:(k == 0) = false:=beq_eq_false_iff_ne.2 hz
     have HZ:=lH hz
     have HE:=lH hE
     have hbig:decide ((out.length:Int) ≥ 32767) = true:=decide_eq_true (by omega)
     have hbig2:decide (32767 ≤ (out.length:Int)) = true:=decide_eq_true (by omega)
     have hbig3:decide (32767 ≤ out.length) = true:=decide_eq_true (by omega)
     have hcb:decide (0 ≤ y) = true:=decide_eq_true (by omega)
     have hcb2:0 ≤ y:=by omega
     have wV:IntKind.u8.wrap y = y:=IntWalk.u8_in _ (by omega)
     have HCB:=lH (show 0 ≤ (y:Int) ∧ (y:Int) < 256 by omega)
     clear hE hpc hz h127 hk2 hc0
     go_wp2_with (first
      | (go_at_call 57;(with_reducible refine (HP0.out _ _ _ (HD.out)).mono ?_);(rintro r wa ⟨rfl,hda⟩);(try dsimp only);have HD:=lH hda;have c1:=hda.ld.c1;have cf:=hda.ld.fr 1;clear hda)
      | (go_at_call 61;(with_reducible refine (HEO.out _ _ _ HD.out).mono ?_);(rintro r wa ⟨rfl,hda⟩);(try dsimp only);have HD:=lH hda;have c1:=hda.ld.c1;have cf:=hda.ld.fr 1;clear hda))
     go_ret2
     exact DnP.bad (HD.out.setI (q + 1) _ HQ1.out) 3 HE.out (by decide)
    ·have hzb:(k == 0) = false:=beq_eq_false_iff_ne.2 hz
     have HZ:=lH hz
     have HF2:=lH hF
     have H127:=lH h127
     have hbig:decide ((out.length:Int) ≥ 32767) = false:=decide_eq_false (by omega)
     have hbig2:decide (32767 ≤ (out.length:Int)) = false:=decide_eq_false (by omega)
     have hbig3:decide (32767 ≤ out.length) = false:=decide_eq_false (by omega)
     have hcb:decide (0 ≤ y) = true:=decide_eq_true (by omega)
     have hcb2:0 ≤ y:=by omega
     have wV:IntKind.u8.wrap y = y:=IntWalk.u8_in _ (by omega)
     have HCB:=lH (show 0 ≤ (y:Int) ∧ (y:Int) < 256 by omega)
     clear hF hpc hz h127 hk2 hc0
     go_upto_region 23 with (first
      | (go_at_call 57;(with_reducible refine (HP0.out _ _ _ (HD.out)).mono ?_);(rintro r wa ⟨rfl,hda⟩);(try dsimp only);have HD:=lH hda;have c1:=hda.ld.c1;have cf:=hda.ld.fr 1;clear hda)
      | (go_at_call 61;(with_reducible refine (HEO.out _ _ _ HD.out).mono ?_);(rintro r wa ⟨rfl,hda⟩);(try dsimp only);have HD:=lH hda;have c1:=hda.ld.c1;have cf:=hda.ld.fr 1;clear hda))
     have hd:=HD.out.setI (q + 1) _ HQ1.out
     obtain ⟨wb,hwb⟩:∃ wb,wa.setCell ⟨m,1,none⟩ (.int .i64 ((q:Int) + 1)) = wb:=⟨_,rfl⟩
     rw [hwb] at hd
     rw [hwb]
     have HD:=lH hd
     clear hwb hd
     go_wp2_with (first
      | (at_builtin;obtain ⟨v6,w6,hrun,hs6,A6,c6,rfl⟩:=HD.out.room y HCB.out (by have:=HOL.out;omega);refine Lib.wpList_append_run_sl _ rfl (.tmp 57) (.tmp 60) 23 rfl _ _ rfl rfl hrun ?_;clear hrun;have HD6:=lH hs6;clear hs6))
     go_roundg f
     case rel=>exact ⟨_,k,_,rfl,HD6,HF2,lH (by have h1:=HG.out;have h2:=HQQ.out;omega),lH (by have h2:=HQQ.out;omega),lH (by rw [List.length_append];have:=H127.out;simp;omega),lH (by have h1:=HK.out;have h2:=HQQ.out;have h3:=HK2.out;have h4:=HZ.out;omega)⟩
     case measure=>omega
end
section
open Go.RowKit
set_option linter.unusedVariables false
set_option maxRecDepth 100000
set_option maxHeartbeats 8000000 in
theorem rhexC (m n c p B:Nat) (T:TypeId) (X:List Value) (A:Option Addr) (zs:List Int) (w:World) (h:LD w m T X A n c p) (hb:Byt w B A n c zs) (hB:B ≤ m) (hn:n ≤ 1000000) (hp:p ≤ n) :
  Calls Tryz.prog 120 #[.pointer (some ⟨m,0,none⟩)] w (DnP m T X A n c (hexZ zs p) w):=by
 have HD0:=lH (DS.start h)
 have HB:=lH hb
 have HL:=lH hb.len
 have HPP:=lH (fun q (hq:q ≤ n + 5) W v out (x:DS w W m T X A n c q v out)=>rdk0 x hb hB hn (by omega))
 obtain ⟨R,hR⟩:∃ R,hexZ zs p = R:=⟨_,rfl⟩
 rw [hR]
 have HR:=lH hR
 obtain ⟨U,hU⟩:∃ U,unhxR 32767 (zs.drop p) (-1) [] = U:=⟨_,rfl⟩
 have HRU:Hid (R = (if U.2 = 7 then 3 else U.2,U.1,p + rowZ prB (zs.drop p) + 1)):=lH (by rw [← hR,← hU];rfl)
 have HU:=lH hU
 clear h hb hR hU
 go_enter Tryz.func120,Tryz.ntmps120
 go_wp2_with fail
 go_loopg [4,5,6,7] (n + 1) (fun gk s4 s5 s6 s7 wr=>∃ (q:Nat) (hf:Int) (out:List Int),s5 = .int .i64 hf ∧ Hid (DS w wr m T X A n c q s4 out) ∧ Hid (unhxR 32767 (zs.drop q) hf out = U) ∧ Hid (n < gk + q) ∧ Hid (q ≤ n) ∧ Hid (out.length ≤ 32767) ∧ Hid (-1 ≤ hf ∧ hf ≤ 15) ∧ Hid (q + rowZ prB (zs.drop q) = p + rowZ prB (zs.drop p)))
 case atStart=>exact ⟨p,-1,[],rfl,HD0,HU,lH (by omega),lH hp,lH (by simp),lH (by omega),lH rfl⟩
 case round =>
  obtain ⟨q,hf,out,rfl,HD,HF,HG,HQ,HOL,HH,HE⟩:=hrel
  obtain ⟨A',c',rfl,_,_⟩:=HD.out.byt
  have HP0:=lH (HPP.out q (by have:=HQ.out;omega))
  have hbd:=peekZ_bd zs HB.out.rng (q:Int)
  have w1:IntKind.i64.wrap ((q:Int) + 1) = (q:Int) + 1:=IntWalk.i64_in _ (by have:=HQ.out;omega)
  have HQ1:Hid ((q:Int) + 1 = ((q + 1:Nat):Int)):=lH (by omega)
  have c1:=HD.out.ld.c1
  have cf:=HD.out.ld.fr 1
  have hhb:=HH.out
  obtain ⟨y,hy⟩:∃ y,peekZ zs (q:Int) = y:=⟨_,rfl⟩
  rw [hy] at HP0 hbd
  have HDG:=lH (fun W=>rdigit y W)
  have HWH:=lH (fun W=>rwhite y W)
  by_cases hlt:y < 0
  ·obtain rfl:y = -1:=by omega
   have hqn:zs.length ≤ q:=by
    rcases Nat.lt_or_ge q zs.length with hq | hq
    ·exfalso
     have h1:=peekZ_in zs q hq
     rw [getD_eq zs q hq] at h1
     have:=(HB.out.rng _ (List.getElem_mem hq)).1
     omega
    ·exact hq
   have HRE:Hid (R.1 = 2):=lH (by
    have h1:=HF.out
    rw [List.drop_of_length_le hqn,unhxR] at h1
    rw [HRU.out,← h1]
    rfl)
   rw [show dgZ (-1) = -1 from by decide] at HDG
   clear hlt hbd hy hqn
   go_wp2_with (first
    | (go_at_call 57;(with_reducible refine (HP0.out _ _ _ (HD.out)).mono ?_);(rintro r wa ⟨rfl,hda⟩);(try dsimp only);have HD:=lH hda;have c1:=hda.ld.c1;have cf:=hda.ld.fr 1;clear hda)
    | (go_at_call 133;(with_reducible refine (HDG.out _).mono ?_);(rintro r w7 ⟨rfl,rfl⟩);(try dsimp only))
    | (go_at_call 80;(with_reducible refine (HWH.out _).mono ?_);(rintro r w7 ⟨rfl,rfl⟩);(try dsimp only)))
   go_ret2
   exact DnP.bad (HD.out.setI (q + 1) _ HQ1.out) 2 HRE.out (by decide)
  ·have hq:q < zs.length:=peekZ_lt zs q (by omega)
   have hqn:q < n:=by have:=HL.out;omega
   have HQN:=lH hqn
   have hdr:zs.drop q = y :: zs.drop (q + 1):=by rw [drop_peek zs q hq,hy]
   have hun:=HF.out
   rw [hdr,unhxR] at hun
   have hrw:rowZ prB (zs.drop q) = if prB y = true then rowZ prB (zs.drop (q + 1)) + 1 else 0:=by rw [hdr,rowZ]
   have hneg:decide (y < 0) = false:=decide_eq_false hlt
   clear hq hqn hdr hy
   rcases hw:whB y with _ | _
   ·rw [hw] at HWH
    rw [if_neg (by rw [hw];decide)] at hun
    by_cases h62:y = 62
    ·subst h62
     rw [if_pos rfl] at hun
     rw [show dgZ 62 = -1 from by decide] at HDG
     have HEE:Hid (q + 1 = p + rowZ prB (zs.drop p) + 1):=lH (by rw [if_neg (by decide)] at hrw;have:=HE.out;omega)
     by_cases hh:hf < 0
     ·rw [if_pos hh] at hun
      have HRE:Hid (R = (0,out,q + 1)):=lH (by rw [HRU.out,← hun,HEE.out];rfl)
      have hhb2:decide (hf < 0) = true:=decide_eq_true hh
      clear hun hrw
      go_wp2_with (first
       | (go_at_call 57;(with_reducible refine (HP0.out _ _ _ (HD.out)).mono ?_);(rintro r wa ⟨rfl,hda⟩);(try dsimp only);have HD:=lH hda;have c1:=hda.ld.c1;have cf:=hda.ld.fr 1;clear hda)
       | (go_at_call 133;(with_reducible refine (HDG.out _).mono ?_);(rintro r w7 ⟨rfl,rfl⟩);(try dsimp only))
       | (go_at_call 80;(with_reducible refine (HWH.out _).mono ?_);(rintro r w7 ⟨rfl,rfl⟩);(try dsimp only)))
      go_ret2
      exact DnP.good (HD.out.setI (q + 1) _ HQ1.out) HRE.out
     ·rw [if_neg hh] at hun
      have hhb2:decide (hf < 0) = false:=decide_eq_false hh
      by_cases hM:32767 ≤ out.length
      ·rw [if_pos hM] at hun
       have HRE:Hid (R.1 = 3):=lH (by rw [HRU.out,← hun];rfl)
       have hbig:decide ((out.length:Int) ≥ 32767) = true:=decide_eq_true (by omega)
       have hbig2:decide (32767 ≤ (out.length:Int)) = true:=decide_eq_true (by omega)
       have hbig3:decide (32767 ≤ out.length) = true:=decide_eq_true (by omega)
       clear hun hrw hM
       go_wp2_with (first
        | (go_at_call 57;(with_reducible refine (HP0.out _ _ _ (HD.out)).mono ?_);(rintro r wa ⟨rfl,hda⟩);(try dsimp only);have HD:=lH hda;have c1:=hda.ld.c1;have cf:=hda.ld.fr 1;clear hda)
        | (go_at_call 133;(with_reducible refine (HDG.out _).mono ?_);(rintro r w7 ⟨rfl,rfl⟩);(try dsimp only))
        | (go_at_call 80;(with_reducible refine (HWH.out _).mono ?_);(rintro r w7 ⟨rfl,rfl⟩);(try dsimp only)))
       go_ret2
       exact DnP.bad (HD.out.setI (q + 1) _ HQ1.out) 3 HRE.out (by decide)
      ·rw [if_neg hM] at hun
       have HRE:Hid (R = (0,out ++ [hf * 16],q + 1)):=lH (by rw [HRU.out,← hun,HEE.out];rfl)
       have hbig:decide ((out.length:Int) ≥ 32767) = false:=decide_eq_false (by omega)
       have hbig2:decide (32767 ≤ (out.length:Int)) = false:=decide_eq_false (by omega)
       have hbig3:decide (32767 ≤ out.length) = false:=decide_eq_false (by omega)
       obtain ⟨z,hz⟩:∃ z,hf * 16 = z:=⟨_,rfl⟩
       rw [hz] at HRE
       have wz1:IntKind.i64.wrap (16 * hf) = z:=by rw [show 16 * hf = z by omega];exact IntWalk.i64_in _ (by omega)
       have wz2:IntKind.i64.wrap z = z:=IntWalk.i64_in _ (by omega)
       have wz3:IntKind.i64.wrap (16 * hf + 0) = z:=by rw [show 16 * hf + 0 = z by omega];exact wz2
       have wV:IntKind.u8.wrap z = z:=IntWalk.u8_in _ (by omega)
       have HZB:=lH (show 0 ≤ z ∧ z < 256 by omega)
       clear hun hrw hM hz
       go_upto_region 19 with (first
        | (go_at_call 57;(with_reducible refine (HP0.out _ _ _ (HD.out)).mono ?_);(rintro r wa ⟨rfl,hda⟩);(try dsimp only);have HD:=lH hda;have c1:=hda.ld.c1;have cf:=hda.ld.fr 1;clear hda)
        | (go_at_call 133;(with_reducible refine (HDG.out _).mono ?_);(rintro r w7 ⟨rfl,rfl⟩);(try dsimp only))
        | (go_at_call 80;(with_reducible refine (HWH.out _).mono ?_);(rintro r w7 ⟨rfl,rfl⟩);(try dsimp only)))
       have hd:=HD.out.setI (q + 1) _ HQ1.out
       obtain ⟨wb,hwb⟩:∃ wb,wa.setCell ⟨m,1,none⟩ (.int .i64 ((q:Int) + 1)) = wb:=⟨_,rfl⟩
       rw [hwb] at hd
       rw [hwb]
       have HD:=lH hd
       clear hwb hd
       go_wp2_with (first
        | (at_builtin;obtain ⟨v6,w6,hrun,hs6,A6,c6,rfl⟩:=HD.out.room z HZB.out (by have:=HOL.out;omega);refine Lib.wpList_append_run_sl _ rfl (.tmp 45) (.tmp 51) 23 rfl _ _ rfl rfl hrun ?_;clear hrun;have HD6:=lH hs6;clear hs6))
       go_ret2
       have hg:=HD6.out
       have e:(out ++ [z]).length = out.length + 1:=by simp
       rw [← e] at hg ⊢
       exact DnP.good hg HRE.out
    ·rw [if_neg h62] at hun
     have y62:(y == 62) = false:=beq_eq_false_iff_ne.2 h62
     have hdb:=dgZ_bd y
     obtain ⟨d,hd⟩:∃ d,dgZ y = d:=⟨_,rfl⟩
     have hpr:prB y = decide (0 ≤ d):=by unfold prB;rw [hw,hd,Bool.or_false]
     rw [hd] at hun HDG hdb
     rw [hpr] at hrw
     clear hd hpr hw h62
     by_cases hd0:d < 0
     ·rw [if_pos hd0] at hun
      have HRE:Hid (R.1 = 4):=lH (by rw [HRU.out,← hun];rfl)
      have hdd:decide (d < 0) = true:=decide_eq_true hd0
      clear hun hrw
      go_wp2_with (first
       | (go_at_call 57;(with_reducible refine (HP0.out _ _ _ (HD.out)).mono ?_);(rintro r wa ⟨rfl,hda⟩);(try dsimp only);have HD:=lH hda;have c1:=hda.ld.c1;have cf:=hda.ld.fr 1;clear hda)
       | (go_at_call 133;(with_reducible refine (HDG.out _).mono ?_);(rintro r w7 ⟨rfl,rfl⟩);(try dsimp only))
       | (go_at_call 80;(with_reducible refine (HWH.out _).mono ?_);(rintro r w7 ⟨rfl,rfl⟩);(try dsimp only)))
      go_ret2
      exact DnP.bad (HD.out.setI (q + 1) _ HQ1.out) 4 HRE.out (by decide)
     ·rw [if_neg hd0] at hun
      have hdd:decide (d < 0) = false:=decide_eq_false hd0
      have HE2:Hid (q + 1 + rowZ prB (zs.drop (q + 1)) = p + rowZ prB (zs.drop p)):=lH (by rw [if_pos (by simp;omega)] at hrw;have:=HE.out;omega)
      have HDB:=lH (show 0 ≤ d ∧ d ≤ 15 by omega)
      by_cases hh:hf < 0
      ·rw [if_pos hh] at hun
       have HU2:=lH hun
       have hhb2:decide (hf < 0) = true:=decide_eq_true hh
       clear hun hrw
       go_wp2_with (first
        | (go_at_call 57;(with_reducible refine (HP0.out _ _ _ (HD.out)).mono ?_);(rintro r wa ⟨rfl,hda⟩);(try dsimp only);have HD:=lH hda;have c1:=hda.ld.c1;have cf:=hda.ld.fr 1;clear hda)
        | (go_at_call 133;(with_reducible refine (HDG.out _).mono ?_);(rintro r w7 ⟨rfl,rfl⟩);(try dsimp only))
        | (go_at_call 80;(with_reducible refine (HWH.out _).mono ?_);(rintro r w7 ⟨rfl,rfl⟩);(try dsimp only)))
       go_roundg (gk - 1)
       case rel=>exact ⟨q + 1,d,out,rfl,lH (HD.out.setI (q + 1) _ HQ1.out),HU2,lH (by have h1:=HG.out;omega),lH (by have h2:=HQN.out;omega),HOL,lH (by have:=HDB.out;omega),HE2⟩
       case measure=>have:=HG.out;have:=HQN.out;omega
      ·rw [if_neg hh] at hun
       have hhb2:decide (hf < 0) = false:=decide_eq_false hh
       by_cases hM:32767 ≤ out.length
       ·rw [if_pos hM] at hun
        have HRE:Hid (R.1 = 3):=lH (by rw [HRU.out,← hun];rfl)
        have hbig:decide ((out.length:Int) ≥ 32767) = true:=decide_eq_true (by omega)
        have hbig2:decide (32767 ≤ (out.length:Int)) = true:=decide_eq_true (by omega)
        have hbig3:decide (32767 ≤ out.length) = true:=decide_eq_true (by omega)
        clear hun hrw hM
        go_wp2_with (first
         | (go_at_call 57;(with_reducible refine (HP0.out _ _ _ (HD.out)).mono ?_);(rintro r wa ⟨rfl,hda⟩);(try dsimp only);have HD:=lH hda;have c1:=hda.ld.c1;have cf:=hda.ld.fr 1;clear hda)
         | (go_at_call 133;(with_reducible refine (HDG.out _).mono ?_);(rintro r w7 ⟨rfl,rfl⟩);(try dsimp only))
         | (go_at_call 80;(with_reducible refine (HWH.out _).mono ?_);(rintro r w7 ⟨rfl,rfl⟩);(try dsimp only)))
        go_ret2
        exact DnP.bad (HD.out.setI (q + 1) _ HQ1.out) 3 HRE.out (by decide)
       ·rw [if_neg hM] at hun
        have hbig:decide ((out.length:Int) ≥ 32767) = false:=decide_eq_false (by omega)
        have hbig2:decide (32767 ≤ (out.length:Int)) = false:=decide_eq_false (by omega)
        have hbig3:decide (32767 ≤ out.length) = false:=decide_eq_false (by omega)
        have H127:=lH hM
        obtain ⟨z,hz⟩:∃ z,hf * 16 + d = z:=⟨_,rfl⟩
        rw [hz] at hun
        have HU2:=lH hun
        have wz1:IntKind.i64.wrap (16 * hf) = 16 * hf:=IntWalk.i64_in _ (by omega)
        have wz2:IntKind.i64.wrap (16 * hf + d) = z:=by rw [show 16 * hf + d = z by omega];exact IntWalk.i64_in _ (by omega)
        have wV:IntKind.u8.wrap z = z:=IntWalk.u8_in _ (by omega)
        have HZB:=lH (show 0 ≤ z ∧ z < 256 by omega)
        clear hun hrw hM hz
        go_upto_region 19 with (first
         | (go_at_call 57;(with_reducible refine (HP0.out _ _ _ (HD.out)).mono ?_);(rintro r wa ⟨rfl,hda⟩);(try dsimp only);have HD:=lH hda;have c1:=hda.ld.c1;have cf:=hda.ld.fr 1;clear hda)
         | (go_at_call 133;(with_reducible refine (HDG.out _).mono ?_);(rintro r w7 ⟨rfl,rfl⟩);(try dsimp only))
         | (go_at_call 80;(with_reducible refine (HWH.out _).mono ?_);(rintro r w7 ⟨rfl,rfl⟩);(try dsimp only)))
        have hd:=HD.out.setI (q + 1) _ HQ1.out
        obtain ⟨wb,hwb⟩:∃ wb,wa.setCell ⟨m,1,none⟩ (.int .i64 ((q:Int) + 1)) = wb:=⟨_,rfl⟩
        rw [hwb] at hd
        rw [hwb]
        have HD:=lH hd
        clear hwb hd
        go_wp2_with (first
         | (at_builtin;obtain ⟨v6,w6,hrun,hs6,A6,c6,rfl⟩:=HD.out.room z HZB.out (by have:=HOL.out;omega);refine Lib.wpList_append_run_sl _ rfl (.tmp 45) (.tmp 51) 23 rfl _ _ rfl rfl hrun ?_;clear hrun;have HD6:=lH hs6;clear hs6))
        go_roundg (gk - 1)
        case rel=>exact ⟨q + 1,-1,_,rfl,HD6,HU2,lH (by have h1:=HG.out;omega),lH (by have h2:=HQN.out;omega),lH (by rw [List.length_append];have:=H127.out;simp;omega),lH (by omega),HE2⟩
        case measure=>have:=HG.out;have:=HQN.out;omega
   ·rw [hw] at HWH
    rw [if_pos hw] at hun
    have HU2:=lH hun
    have HE2:Hid (q + 1 + rowZ prB (zs.drop (q + 1)) = p + rowZ prB (zs.drop p)):=lH (by rw [if_pos (by unfold prB;rw [hw,Bool.or_true])] at hrw;have:=HE.out;omega)
    clear hun hrw hw
    go_wp2_with (first
     | (go_at_call 57;(with_reducible refine (HP0.out _ _ _ (HD.out)).mono ?_);(rintro r wa ⟨rfl,hda⟩);(try dsimp only);have HD:=lH hda;have c1:=hda.ld.c1;have cf:=hda.ld.fr 1;clear hda)
     | (go_at_call 133;(with_reducible refine (HDG.out _).mono ?_);(rintro r w7 ⟨rfl,rfl⟩);(try dsimp only))
     | (go_at_call 80;(with_reducible refine (HWH.out _).mono ?_);(rintro r w7 ⟨rfl,rfl⟩);(try dsimp only)))
    go_roundg (gk - 1)
    case rel=>exact ⟨q + 1,hf,out,rfl,lH (HD.out.setI (q + 1) _ HQ1.out),HU2,lH (by have h1:=HG.out;omega),lH (by have h2:=HQN.out;omega),HOL,HH,HE2⟩
    case measure=>have:=HG.out;have:=HQN.out;omega
end
section
open Go.RowKit
set_option linter.unusedVariables false
set_option maxRecDepth 100000
structure TS (w W:World) (m:Nat) (T:TypeId) (X:List Value) (A:Option Addr) (n c q:Nat) (b:Nat) (k a v:Int) (A':Option Addr) (m' c':Nat):Prop where
 ld:LD W m T X A n c q
 ol:Only m w W
 bx:Bx W b 99 (.int .i64 k) (.int .i64 a) (.int .i64 v) (.slice A' m' c')
 lb:w.heap.size ≤ b
 lm:m < w.heap.size
section
variable {w W W':World} {m n c q q' b m' c':Nat} {T:TypeId} {X:List Value} {A A':Option Addr} {k a v:Int}
theorem TS.drewN (x:TS w W m T X A n c q b k a v A' m' c') (j:Nat):TS w (W.drewN j) m T X A n c q b k a v A' m' c':=⟨x.ld.drewN j,x.ol.drewN j,x.bx,x.lb,x.lm⟩
theorem TS.moved (x:TS w W m T X A n c q b k a v A' m' c') (hl:LD W' m T X A n c q') (ho:Only m W W'):TS w W' m T X A n c q' b k a v A' m' c' :=
 ⟨hl,x.ol.trans ho,x.bx.only ho (by have:=x.lb;have:=x.lm;omega),x.lb,x.lm⟩
theorem TS.setP (x:TS w W m T X A n c q b k a v A' m' c') (q':Nat) (z:Int) (hz:z = q'):TS w (W.setCell ⟨m,1,none⟩ (.int .i64 z)) m T X A n c q' b k a v A' m' c' :=
 x.moved (x.ld.setI q' z hz) ((Only.refl m W).set_ 1 _)
theorem TS.set0 (x:TS w W m T X A n c q b k a v A' m' c') (z:Int):TS w (W.setCell ⟨b,0,none⟩ (.int .i64 z)) m T X A n c q b z a v A' m' c' :=
 ⟨x.ld.keep (Below.heap_setCell W ⟨b,0,none⟩ _ m (by show m ≠ b;have:=x.lb;have:=x.lm;omega)),x.ol.setN x.lb 0 _,heap_set W b 0 _ [.int .i64 k,.int .i64 a,.int .i64 v,.slice A' m' c'] _ x.bx,x.lb,x.lm⟩
theorem TS.set2 (x:TS w W m T X A n c q b k a v A' m' c') (z:Int):TS w (W.setCell ⟨b,2,none⟩ (.int .i64 z)) m T X A n c q b k a z A' m' c' :=
 ⟨x.ld.keep (Below.heap_setCell W ⟨b,2,none⟩ _ m (by show m ≠ b;have:=x.lb;have:=x.lm;omega)),x.ol.setN x.lb 2 _,heap_set W b 2 _ [.int .i64 k,.int .i64 a,.int .i64 v,.slice A' m' c'] _ x.bx,x.lb,x.lm⟩
theorem TS.set3 (x:TS w W m T X A n c q b k a v A' m' c') (A2:Option Addr) (m2 c2:Nat):TS w (W.setCell ⟨b,3,none⟩ (.slice A2 m2 c2)) m T X A n c q b k a v A2 m2 c2 :=
 ⟨x.ld.keep (Below.heap_setCell W ⟨b,3,none⟩ _ m (by show m ≠ b;have:=x.lb;have:=x.lm;omega)),x.ol.setN x.lb 3 _,heap_set W b 3 _ [.int .i64 k,.int .i64 a,.int .i64 v,.slice A' m' c'] _ x.bx,x.lb,x.lm⟩
theorem tpk0 {B:Nat} {zs:List Int} (x:TS w W m T X A n c q b k a v A' m' c') (hb:Byt w B A n c zs) (hB:B ≤ m) (hn:n ≤ 1000000) (hq:q ≤ 1500000) :
  Calls Tryz.prog 57 #[.pointer (some ⟨m,0,none⟩),.int .i64 0] W fun e w'=>e = .returned (.int .i64 (peekZ zs (q:Int))) ∧ TS w w' m T X A n c q b k a v A' m' c' ∧ W.heap.size ≤ w'.heap.size :=
 (rpeek0 m n c q B T X A zs W x.ld (hb.only x.ol hB (Nat.le_of_lt x.lm)) hn (by omega)).mono fun _ _ ⟨h1,j,h2⟩=>⟨h1,by rw [h2];exact x.drewN j,by rw [h2];exact Nat.le_refl _⟩
theorem tpk1 {B:Nat} {zs:List Int} (x:TS w W m T X A n c q b k a v A' m' c') (hb:Byt w B A n c zs) (hB:B ≤ m) (hn:n ≤ 1000000) (hq:q ≤ 1500000) :
  Calls Tryz.prog 57 #[.pointer (some ⟨m,0,none⟩),.int .i64 1] W fun e w'=>e = .returned (.int .i64 (peekZ zs ((q + 1:Nat):Int))) ∧ TS w w' m T X A n c q b k a v A' m' c' ∧ W.heap.size ≤ w'.heap.size :=
 (rpeek1 m n c q B T X A zs W x.ld (hb.only x.ol hB (Nat.le_of_lt x.lm)) hn (by omega)).mono fun _ _ ⟨h1,j,h2⟩=>⟨h1,by rw [h2];exact x.drewN j,by rw [h2];exact Nat.le_refl _⟩
end
set_option maxHeartbeats 2000000 in
theorem rnumberC {w W:World} {m n c q b m' c' B:Nat} {T:TypeId} {X:List Value} {A A':Option Addr} {k a v:Int} {zs:List Int} (x:TS w W m T X A n c q b k a v A' m' c') (hb:Byt w B A n c zs) (hB:B ≤ m) (hn:n ≤ 1000000) (hq:q ≤ n) :
  Calls Tryz.prog 121 #[.pointer (some ⟨m,0,none⟩),.pointer (some ⟨b,0,none⟩)] W fun e w'=>e = .returned (.int .i64 (parseS ((zs.drop q).take (rowZ regB (zs.drop q)))).2.2) ∧ TS w w' m T X A n c (q + rowZ regB (zs.drop q)) b (if (parseS ((zs.drop q).take (rowZ regB (zs.drop q)))).2.1 = true then 1 else 2) a (parseS ((zs.drop q).take (rowZ regB (zs.drop q)))).1 A' m' c':=by
 have HRU:=lH (rrunC m n c q B T X A zs W x.ld (hb.only x.ol hB (Nat.le_of_lt x.lm)) hB hn hq)
 have hle:=rowZ_le regB (zs.drop q)
 rw [List.length_drop,hb.len] at hle
 have HX:=lH x
 obtain ⟨K,hK⟩:∃ K,rowZ regB (zs.drop q) = K:=⟨_,rfl⟩
 rw [hK] at HRU hle ⊢
 have HPA:=lH (fun (A9:Option Addr) (c9:Nat) (W':World) (hW:Byt W' W'.heap.size A9 K c9 ((zs.drop q).take K))=>refParse A9 K c9 W'.heap.size ((zs.drop q).take K) W' hW (by omega))
 obtain ⟨⟨N,wh,e⟩,hX⟩:∃ Y,parseS ((zs.drop q).take K) = Y:=⟨_,rfl⟩
 rw [hX] at HPA ⊢
 clear x hb hK hX hle
 unfold ParseOut at HPA
 cases wh
 all_goals
  go_enter Tryz.func121,Tryz.ntmps121
  go_wp2_with (first
   | (go_at_call 122;refine HRU.out.mono ?_;(rintro r w2 ⟨v9,rfl,hm2,hl2,ho2⟩);obtain ⟨A9,c9,rfl,hy2⟩:=hm2.byt;have HY2:=lH hy2;have HT:=lH (HX.out.moved hl2 ho2);have kb0:=HT.out.bx.c0;have kb2:=HT.out.bx.c2;have kbf:=HT.out.bx.fr;clear hm2 hl2 ho2 hy2)
   | (go_at_call 135;refine (HPA.out _ _ _ HY2.out).mono ?_;(rintro r w7 ⟨rfl,rfl⟩)))
  go_ret
  first
   | exact ⟨rfl,(HT.out.set0 2).set2 N⟩
   | exact ⟨rfl,((HT.out.set0 2).set0 1).set2 N⟩
def RkP (w:World) (m:Nat) (T:TypeId) (X:List Value) (A:Option Addr) (n c b:Nat) (a:Int) (t:Tk) (W:World) (r:Ending) (w':World):Prop :=
 ∃ (q:Nat) (k v:Int) (A':Option Addr) (m' c':Nat),r = .returned (.int .i64 t.e) ∧ TS w w' m T X A n c q b k a v A' m' c' ∧ (t.e = 0 → k = t.k ∧ v = t.v ∧ q = t.q ∧ Byt w' w'.heap.size A' m' c' t.b ∧ From W.heap.size A' m')
theorem RkP.plain {w W w':World} {m n c q b:Nat} {T:TypeId} {X:List Value} {A:Option Addr} {k a v:Int} {c':Nat} {t:Tk} {e:Int} (x:TS w w' m T X A n c q b k a v none 0 c') (ht:t = ⟨e,k,v,[],q⟩) (hc:c' = 0):RkP w m T X A n c b a t W (.returned (.int .i64 e)) w':=by
 subst ht hc
 exact ⟨q,k,v,none,0,0,rfl,x,fun _=>⟨rfl,rfl,rfl,Byt.none_ _ _,fun h=>absurd h (by omega)⟩⟩
theorem RkP.bad {w W w':World} {m n c q b m' c':Nat} {T:TypeId} {X:List Value} {A A':Option Addr} {k a v:Int} {t:Tk} {e:Int} (x:TS w w' m T X A n c q b k a v A' m' c') (ht:t.e = e) (h0:e ≠ 0):RkP w m T X A n c b a t W (.returned (.int .i64 e)) w':=by
 subst ht
 exact ⟨q,k,v,A',m',c',rfl,x,fun h=>absurd h h0⟩
theorem RkP.row {w W w1 w2:World} {m n c q q1 b:Nat} {T:TypeId} {X:List Value} {A A2:Option Addr} {k a v:Int} {A':Option Addr} {m' c' m2 c2:Nat} {R:Int × List Int × Nat} {t:Tk}
  (x:TS w w1 m T X A n c q b k a v A' m' c') (hW:W.heap.size ≤ w1.heap.size) (hbW:b < W.heap.size) (hl:LD w2 m T X A n c q1) (ho:Only m w1 w2) (hr:R.1 = 0 → q1 = R.2.2 ∧ Mine w2 w1.heap.size (.slice A2 m2 c2) m2 R.2.1) (ht:t = ⟨R.1,k,v,R.2.1,R.2.2⟩) :
  RkP w m T X A n c b a t W (.returned (.int .i64 R.1)) (w2.setCell ⟨b,3,none⟩ (.slice A2 m2 c2)):=by
 subst ht
 refine ⟨q1,k,v,A2,m2,c2,rfl,(x.moved hl ho).set3 A2 m2 c2,fun h0=>?_⟩
 obtain ⟨h1,h2⟩:=hr h0
 obtain ⟨A9,c9,e9,hy⟩:=h2.byt
 injection e9 with e1 _ e3
 subst e1 e3
 have hf:=h2.from_
 exact ⟨rfl,rfl,h1,by rw [show (w2.setCell ⟨b,3,none⟩ (.slice A2 m2 c2)).heap.size = w2.heap.size by simp [World.setCell]];exact hy.set_ hf (Nat.lt_of_lt_of_le hbW hW) 3 _,fun h b' o e=>by have:=hf h b' o e;omega⟩
theorem nm_lits (y:Int) (h:nmB y = true):y = 43 ∨ y = 45 ∨ y = 46 ∨ (48 ≤ y ∧ y ≤ 57):=by
 rcases nm_dig y h with h | h | h | h
 ·exact .inr (.inr (.inr h))
 ·exact .inl h
 ·exact .inr (.inl h)
 ·exact .inr (.inr (.inl h))
theorem nm_no (y:Int) (h:nmB y = false):(y == 43) = false ∧ (y == 45) = false ∧ (y == 46) = false ∧ (y < 48 ∨ 57 < y):=by
 unfold nmB at h
 simp at h ⊢
 omega
set_option maxHeartbeats 8000000 in
theorem rtokenC {w W:World} {m n c p b B:Nat} {T:TypeId} {X:List Value} {A:Option Addr} {a:Int} {zs:List Int} (x:TS w W m T X A n c p b 0 a 0 none 0 0) (hb:Byt w B A n c zs) (hB:B ≤ m) (hn:n ≤ 900000) (hp:p ≤ n) :
  Calls Tryz.prog 103 #[.pointer (some ⟨m,0,none⟩),.pointer (some ⟨b,0,none⟩)] W (RkP w m T X A n c b a (tokZ zs p) W):=by
 have HT:=lH x
 have HSA:Hid (W.heap.size ≤ W.heap.size):=lH (Nat.le_refl _)
 have HBW:=lH (show b < W.heap.size from x.bx.lt)
 have HL:=lH hb.len
 have HP0:=lH (fun W k v A' m' c' (x:TS w W m T X A n c p b k a v A' m' c')=>tpk0 x hb hB (by omega) (by omega))
 have HP1:=lH (fun W k v A' m' c' (x:TS w W m T X A n c p b k a v A' m' c')=>tpk1 x hb hB (by omega) (by omega))
 have HNM:=lH (fun W q (hq:q ≤ n) (hl:LD W m T X A n c q) (ho:Only m w W)=>rnameC m n c q B T X A zs W hl (hb.only ho hB (Nat.le_of_lt x.lm)) hB (by omega) hq)
 have HTX:=lH (fun W q (hq:q ≤ n) (hl:LD W m T X A n c q) (ho:Only m w W)=>rtextC m n c q B T X A zs W hl (hb.only ho hB (Nat.le_of_lt x.lm)) hB (by omega) hq)
 have HHX:=lH (fun W q (hq:q ≤ n) (hl:LD W m T X A n c q) (ho:Only m w W)=>rhexC m n c q B T X A zs W hl (hb.only ho hB (Nat.le_of_lt x.lm)) hB (by omega) hq)
 have HRN:=lH (fun W (hl:LD W m T X A n c p) (ho:Only m w W)=>rrunC m n c p B T X A zs W hl (hb.only ho hB (Nat.le_of_lt x.lm)) hB (by omega) hp)
 have HNB:=lH (fun W k v A' m' c' (x:TS w W m T X A n c p b k a v A' m' c')=>rnumberC x hb hB (by omega) hp)
 have hbd:=peekZ_bd zs hb.rng (p:Int)
 have hpn:0 ≤ peekZ zs (p:Int) → p + 1 ≤ n:=fun h=>by have:=peekZ_lt zs p h;have:=hb.len;omega
 have hle:=rowZ_le regB (zs.drop p)
 rw [List.length_drop,hb.len] at hle
 obtain ⟨y,hy⟩:∃ y,peekZ zs (p:Int) = y:=⟨_,rfl⟩
 obtain ⟨y2,hy2⟩:∃ y,peekZ zs ((p + 1:Nat):Int) = y:=⟨_,rfl⟩
 rw [hy] at HP0 hbd hpn
 rw [hy2] at HP1
 have HRG:=lH (fun W=>rregC y W)
 have HPN:=lH hpn
 have w1:IntKind.i64.wrap ((p:Int) + 1) = (p:Int) + 1:=IntWalk.i64_in _ (by omega)
 have w2:IntKind.i64.wrap ((p:Int) + 2) = (p:Int) + 2:=IntWalk.i64_in _ (by omega)
 have HQ1:Hid ((p:Int) + 1 = ((p + 1:Nat):Int)):=lH (by omega)
 have HQ2:Hid ((p:Int) + 2 = ((p + 2:Nat):Int)):=lH (by omega)
 have HW0:Hid (∀ W',Only m W W' → W.heap.size ≤ W'.heap.size):=lH (fun _ h=>h.size)
 clear x hb hp hpn
 by_cases hneg:y < 0
 ·obtain rfl:y = -1:=by omega
  have hT:tokZ zs p = ⟨0,0,0,[],p⟩:=by rw [tokZ,hy,if_pos (by decide)]
  rw [hT]
  clear hT hy hy2 hbd hneg hle
  go_enter Tryz.func103,Tryz.ntmps103
  go_wp2_with (first
   | (go_at_call 57;(with_reducible refine (HP0.out _ _ _ _ _ _ HT.out).mono ?_);(rintro r wa ⟨rfl,hta,hsa⟩);(try dsimp only);have HT:=lH hta;have HSA:=lH (Nat.le_trans HSA.out hsa);have c1:=hta.ld.c1;have cf:=hta.ld.fr 1;have kb0:=hta.bx.c0;have kb2:=hta.bx.c2;have kb3:=hta.bx.c3;have kbf:=hta.bx.fr;clear hta hsa)
   | (go_at_call 57;(with_reducible refine (HP1.out _ _ _ _ _ _ HT.out).mono ?_);(rintro r wa ⟨rfl,hta,hsa⟩);(try dsimp only);have HT:=lH hta;have HSA:=lH (Nat.le_trans HSA.out hsa);have c1:=hta.ld.c1;have cf:=hta.ld.fr 1;have kb0:=hta.bx.c0;have kb2:=hta.bx.c2;have kb3:=hta.bx.c3;have kbf:=hta.bx.fr;clear hta hsa)
   | (go_at_call 56;refine (HRG.out _).mono ?_;(rintro r w7 ⟨rfl,rfl⟩);(try dsimp only)))
  go_ret
  exact RkP.plain HT.out rfl rfl
 ·have hnegb:decide (y < 0) = false:=decide_eq_false hneg
  have HP1N:=lH (HPN.out (by omega))
  rcases hnm:nmB y with _ | _
  ·rcases hrg:regB y with _ | _
   ·rw [hrg] at HRG
    obtain rfl | rfl | ⟨rfl,h62⟩ | ⟨rfl,h62⟩ | rfl | rfl | ⟨rfl,h62⟩ | ⟨rfl,h62⟩ | hA:y = 91 ∨ y = 93 ∨ (y = 60 ∧ y2 = 60) ∨ (y = 62 ∧ y2 = 62) ∨ y = 47 ∨ y = 40 ∨ (y = 60 ∧ y2 ≠ 60) ∨ (y = 62 ∧ y2 ≠ 62) ∨ (y ≠ 91 ∧ y ≠ 93 ∧ y ≠ 60 ∧ y ≠ 62 ∧ y ≠ 47 ∧ y ≠ 40):=by omega
    ·have hT:tokZ zs p = ⟨0,5,0,[],p + 1⟩:=by rw [tokZ,hy,if_neg (by decide),if_neg (by decide),if_neg (by decide),if_pos rfl]
     rw [hT]
     clear hT hy hy2 hbd hneg hle hnm hrg
     go_enter Tryz.func103,Tryz.ntmps103
     go_wp2_with (first
      | (go_at_call 57;(with_reducible refine (HP0.out _ _ _ _ _ _ HT.out).mono ?_);(rintro r wa ⟨rfl,hta,hsa⟩);(try dsimp only);have HT:=lH hta;have HSA:=lH (Nat.le_trans HSA.out hsa);have c1:=hta.ld.c1;have cf:=hta.ld.fr 1;have kb0:=hta.bx.c0;have kb2:=hta.bx.c2;have kb3:=hta.bx.c3;have kbf:=hta.bx.fr;clear hta hsa)
      | (go_at_call 57;(with_reducible refine (HP1.out _ _ _ _ _ _ HT.out).mono ?_);(rintro r wa ⟨rfl,hta,hsa⟩);(try dsimp only);have HT:=lH hta;have HSA:=lH (Nat.le_trans HSA.out hsa);have c1:=hta.ld.c1;have cf:=hta.ld.fr 1;have kb0:=hta.bx.c0;have kb2:=hta.bx.c2;have kb3:=hta.bx.c3;have kbf:=hta.bx.fr;clear hta hsa)
      | (go_at_call 56;refine (HRG.out _).mono ?_;(rintro r w7 ⟨rfl,rfl⟩);(try dsimp only)))
     go_ret
     exact RkP.plain ((HT.out.set0 5).setP (p + 1) _ HQ1.out) rfl rfl
    ·have hT:tokZ zs p = ⟨0,6,0,[],p + 1⟩:=by rw [tokZ,hy,if_neg (by decide),if_neg (by decide),if_neg (by decide),if_neg (by decide),if_pos rfl]
     rw [hT]
     clear hT hy hy2 hbd hneg hle hnm hrg
     go_enter Tryz.func103,Tryz.ntmps103
     go_wp2_with (first
      | (go_at_call 57;(with_reducible refine (HP0.out _ _ _ _ _ _ HT.out).mono ?_);(rintro r wa ⟨rfl,hta,hsa⟩);(try dsimp only);have HT:=lH hta;have HSA:=lH (Nat.le_trans HSA.out hsa);have c1:=hta.ld.c1;have cf:=hta.ld.fr 1;have kb0:=hta.bx.c0;have kb2:=hta.bx.c2;have kb3:=hta.bx.c3;have kbf:=hta.bx.fr;clear hta hsa)
      | (go_at_call 57;(with_reducible refine (HP1.out _ _ _ _ _ _ HT.out).mono ?_);(rintro r wa ⟨rfl,hta,hsa⟩);(try dsimp only);have HT:=lH hta;have HSA:=lH (Nat.le_trans HSA.out hsa);have c1:=hta.ld.c1;have cf:=hta.ld.fr 1;have kb0:=hta.bx.c0;have kb2:=hta.bx.c2;have kb3:=hta.bx.c3;have kbf:=hta.bx.fr;clear hta hsa)
      | (go_at_call 56;refine (HRG.out _).mono ?_;(rintro r w7 ⟨rfl,rfl⟩);(try dsimp only)))
     go_ret
     exact RkP.plain ((HT.out.set0 6).setP (p + 1) _ HQ1.out) rfl rfl
    ·have hT:tokZ zs p = ⟨0,7,0,[],p + 2⟩:=by rw [tokZ,hy,hy2,if_neg (by decide),if_neg (by decide),if_neg (by decide),if_neg (by decide),if_neg (by decide),if_pos ⟨rfl,h62⟩]
     rw [hT]
     clear hT hy hy2 hbd hneg hle hnm hrg
     subst h62
     go_enter Tryz.func103,Tryz.ntmps103
     go_wp2_with (first
      | (go_at_call 57;(with_reducible refine (HP0.out _ _ _ _ _ _ HT.out).mono ?_);(rintro r wa ⟨rfl,hta,hsa⟩);(try dsimp only);have HT:=lH hta;have HSA:=lH (Nat.le_trans HSA.out hsa);have c1:=hta.ld.c1;have cf:=hta.ld.fr 1;have kb0:=hta.bx.c0;have kb2:=hta.bx.c2;have kb3:=hta.bx.c3;have kbf:=hta.bx.fr;clear hta hsa)
      | (go_at_call 57;(with_reducible refine (HP1.out _ _ _ _ _ _ HT.out).mono ?_);(rintro r wa ⟨rfl,hta,hsa⟩);(try dsimp only);have HT:=lH hta;have HSA:=lH (Nat.le_trans HSA.out hsa);have c1:=hta.ld.c1;have cf:=hta.ld.fr 1;have kb0:=hta.bx.c0;have kb2:=hta.bx.c2;have kb3:=hta.bx.c3;have kbf:=hta.bx.fr;clear hta hsa)
      | (go_at_call 56;refine (HRG.out _).mono ?_;(rintro r w7 ⟨rfl,rfl⟩);(try dsimp only)))
     go_ret
     exact RkP.plain ((HT.out.set0 7).setP (p + 2) _ HQ2.out) rfl rfl
    ·have hT:tokZ zs p = ⟨0,8,0,[],p + 2⟩:=by rw [tokZ,hy,hy2,if_neg (by decide),if_neg (by decide),if_neg (by decide),if_neg (by decide),if_neg (by decide),if_neg (by omega),if_pos ⟨rfl,h62⟩]
     rw [hT]
     clear hT hy hy2 hbd hneg hle hnm hrg
     subst h62
     go_enter Tryz.func103,Tryz.ntmps103
     go_wp2_with (first
      | (go_at_call 57;(with_reducible refine (HP0.out _ _ _ _ _ _ HT.out).mono ?_);(rintro r wa ⟨rfl,hta,hsa⟩);(try dsimp only);have HT:=lH hta;have HSA:=lH (Nat.le_trans HSA.out hsa);have c1:=hta.ld.c1;have cf:=hta.ld.fr 1;have kb0:=hta.bx.c0;have kb2:=hta.bx.c2;have kb3:=hta.bx.c3;have kbf:=hta.bx.fr;clear hta hsa)
      | (go_at_call 57;(with_reducible refine (HP1.out _ _ _ _ _ _ HT.out).mono ?_);(rintro r wa ⟨rfl,hta,hsa⟩);(try dsimp only);have HT:=lH hta;have HSA:=lH (Nat.le_trans HSA.out hsa);have c1:=hta.ld.c1;have cf:=hta.ld.fr 1;have kb0:=hta.bx.c0;have kb2:=hta.bx.c2;have kb3:=hta.bx.c3;have kbf:=hta.bx.fr;clear hta hsa)
      | (go_at_call 56;refine (HRG.out _).mono ?_;(rintro r w7 ⟨rfl,rfl⟩);(try dsimp only)))
     go_ret
     exact RkP.plain ((HT.out.set0 8).setP (p + 2) _ HQ2.out) rfl rfl
    ·have hT:tokZ zs p = ⟨(nameF zs (zs.length + 1) (p + 1) []).1,4,0,(nameF zs (zs.length + 1) (p + 1) []).2.1,(nameF zs (zs.length + 1) (p + 1) []).2.2⟩:=by rw [tokZ,hy,if_neg (by decide),if_neg (by decide),if_neg (by decide),if_neg (by decide),if_neg (by decide),if_neg (fun e=>absurd e.1 (by decide)),if_neg (fun e=>absurd e.1 (by decide)),if_pos rfl]
     rw [hT]
     clear hT hy hy2 hbd hneg hle hnm hrg
     go_enter Tryz.func103,Tryz.ntmps103
     go_upto_region 21 with (first
      | (go_at_call 57;(with_reducible refine (HP0.out _ _ _ _ _ _ HT.out).mono ?_);(rintro r wa ⟨rfl,hta,hsa⟩);(try dsimp only);have HT:=lH hta;have HSA:=lH (Nat.le_trans HSA.out hsa);have c1:=hta.ld.c1;have cf:=hta.ld.fr 1;have kb0:=hta.bx.c0;have kb2:=hta.bx.c2;have kb3:=hta.bx.c3;have kbf:=hta.bx.fr;clear hta hsa)
      | (go_at_call 57;(with_reducible refine (HP1.out _ _ _ _ _ _ HT.out).mono ?_);(rintro r wa ⟨rfl,hta,hsa⟩);(try dsimp only);have HT:=lH hta;have HSA:=lH (Nat.le_trans HSA.out hsa);have c1:=hta.ld.c1;have cf:=hta.ld.fr 1;have kb0:=hta.bx.c0;have kb2:=hta.bx.c2;have kb3:=hta.bx.c3;have kbf:=hta.bx.fr;clear hta hsa)
      | (go_at_call 56;refine (HRG.out _).mono ?_;(rintro r w7 ⟨rfl,rfl⟩);(try dsimp only)))
     have ht:=(HT.out.setP (p + 1) _ HQ1.out).set0 4
     obtain ⟨wb,hwb⟩:∃ wb,(wa.setCell ⟨m,1,none⟩ (.int .i64 ((p:Int) + 1))).setCell ⟨b,0,none⟩ (.int .i64 4) = wb:=⟨_,rfl⟩
     have hsz:wb.heap.size = wa.heap.size:=by rw [← hwb];simp [World.setCell]
     rw [hwb] at ht
     rw [hwb]
     have HT:=lH ht
     have HWB:=lH (show W.heap.size ≤ wb.heap.size by rw [hsz];exact HSA.out)
     have kb3:=ht.bx.c3
     have kbf:=ht.bx.fr
     clear ht hwb hsz
     go_wp2_with (first
      | (go_at_call 118;refine (HNM.out _ (p + 1) HP1N.out HT.out.ld HT.out.ol).mono ?_;(rintro r w9 ⟨A9,m9,c9,q9,rfl,hl9,ho9,hr9⟩);have HL9:=lH hl9;have HO9:=lH ho9;have HR9:=lH hr9;have HT9:=lH (HT.out.moved hl9 ho9);have kb3:=HT9.out.bx.c3;have kbf:=HT9.out.bx.fr;clear hl9 ho9 hr9))
     go_ret
     exact RkP.row HT.out HWB.out HBW.out HL9.out HO9.out HR9.out rfl
    ·have hT:tokZ zs p = ⟨(textF zs (zs.length + 1) (p + 1) 1 []).1,3,0,(textF zs (zs.length + 1) (p + 1) 1 []).2.1,(textF zs (zs.length + 1) (p + 1) 1 []).2.2⟩:=by rw [tokZ,hy,if_neg (by decide),if_neg (by decide),if_neg (by decide),if_neg (by decide),if_neg (by decide),if_neg (fun e=>absurd e.1 (by decide)),if_neg (fun e=>absurd e.1 (by decide)),if_neg (by decide),if_pos rfl]
     rw [hT]
     clear hT hy hy2 hbd hneg hle hnm hrg
     go_enter Tryz.func103,Tryz.ntmps103
     go_upto_region 25 with (first
      | (go_at_call 57;(with_reducible refine (HP0.out _ _ _ _ _ _ HT.out).mono ?_);(rintro r wa ⟨rfl,hta,hsa⟩);(try dsimp only);have HT:=lH hta;have HSA:=lH (Nat.le_trans HSA.out hsa);have c1:=hta.ld.c1;have cf:=hta.ld.fr 1;have kb0:=hta.bx.c0;have kb2:=hta.bx.c2;have kb3:=hta.bx.c3;have kbf:=hta.bx.fr;clear hta hsa)
      | (go_at_call 57;(with_reducible refine (HP1.out _ _ _ _ _ _ HT.out).mono ?_);(rintro r wa ⟨rfl,hta,hsa⟩);(try dsimp only);have HT:=lH hta;have HSA:=lH (Nat.le_trans HSA.out hsa);have c1:=hta.ld.c1;have cf:=hta.ld.fr 1;have kb0:=hta.bx.c0;have kb2:=hta.bx.c2;have kb3:=hta.bx.c3;have kbf:=hta.bx.fr;clear hta hsa)
      | (go_at_call 56;refine (HRG.out _).mono ?_;(rintro r w7 ⟨rfl,rfl⟩);(try dsimp only)))
     have ht:=(HT.out.setP (p + 1) _ HQ1.out).set0 3
     obtain ⟨wb,hwb⟩:∃ wb,(wa.setCell ⟨m,1,none⟩ (.int .i64 ((p:Int) + 1))).setCell ⟨b,0,none⟩ (.int .i64 3) = wb:=⟨_,rfl⟩
     have hsz:wb.heap.size = wa.heap.size:=by rw [← hwb];simp [World.setCell]
     rw [hwb] at ht
     rw [hwb]
     have HT:=lH ht
     have HWB:=lH (show W.heap.size ≤ wb.heap.size by rw [hsz];exact HSA.out)
     have kb3:=ht.bx.c3
     have kbf:=ht.bx.fr
     clear ht hwb hsz
     go_wp2_with (first
      | (go_at_call 119;refine (HTX.out _ (p + 1) HP1N.out HT.out.ld HT.out.ol).mono ?_;(rintro r w9 ⟨A9,m9,c9,q9,rfl,hl9,ho9,hr9⟩);have HL9:=lH hl9;have HO9:=lH ho9;have HR9:=lH hr9;have HT9:=lH (HT.out.moved hl9 ho9);have kb3:=HT9.out.bx.c3;have kbf:=HT9.out.bx.fr;clear hl9 ho9 hr9))
     go_ret
     exact RkP.row HT.out HWB.out HBW.out HL9.out HO9.out HR9.out rfl
    ·have hT:tokZ zs p = ⟨(hexZ zs (p + 1)).1,3,0,(hexZ zs (p + 1)).2.1,(hexZ zs (p + 1)).2.2⟩:=by rw [tokZ,hy,hy2,if_neg (by decide),if_neg (by decide),if_neg (by decide),if_neg (by decide),if_neg (by decide),if_neg (fun e=>h62 e.2),if_neg (fun e=>absurd e.1 (by decide)),if_neg (by decide),if_neg (by decide),if_pos rfl]
     rw [hT]
     have y260:(y2 == 60) = false:=beq_eq_false_iff_ne.2 h62
     clear h62
     clear hT hy hy2 hbd hneg hle hnm hrg
     go_enter Tryz.func103,Tryz.ntmps103
     go_upto_region 29 with (first
      | (go_at_call 57;(with_reducible refine (HP0.out _ _ _ _ _ _ HT.out).mono ?_);(rintro r wa ⟨rfl,hta,hsa⟩);(try dsimp only);have HT:=lH hta;have HSA:=lH (Nat.le_trans HSA.out hsa);have c1:=hta.ld.c1;have cf:=hta.ld.fr 1;have kb0:=hta.bx.c0;have kb2:=hta.bx.c2;have kb3:=hta.bx.c3;have kbf:=hta.bx.fr;clear hta hsa)
      | (go_at_call 57;(with_reducible refine (HP1.out _ _ _ _ _ _ HT.out).mono ?_);(rintro r wa ⟨rfl,hta,hsa⟩);(try dsimp only);have HT:=lH hta;have HSA:=lH (Nat.le_trans HSA.out hsa);have c1:=hta.ld.c1;have cf:=hta.ld.fr 1;have kb0:=hta.bx.c0;have kb2:=hta.bx.c2;have kb3:=hta.bx.c3;have kbf:=hta.bx.fr;clear hta hsa)
      | (go_at_call 56;refine (HRG.out _).mono ?_;(rintro r w7 ⟨rfl,rfl⟩);(try dsimp only)))
     have ht:=(HT.out.setP (p + 1) _ HQ1.out).set0 3
     obtain ⟨wb,hwb⟩:∃ wb,(wa.setCell ⟨m,1,none⟩ (.int .i64 ((p:Int) + 1))).setCell ⟨b,0,none⟩ (.int .i64 3) = wb:=⟨_,rfl⟩
     have hsz:wb.heap.size = wa.heap.size:=by rw [← hwb];simp [World.setCell]
     rw [hwb] at ht
     rw [hwb]
     have HT:=lH ht
     have HWB:=lH (show W.heap.size ≤ wb.heap.size by rw [hsz];exact HSA.out)
     have kb3:=ht.bx.c3
     have kbf:=ht.bx.fr
     clear ht hwb hsz
     go_wp2_with (first
      | (go_at_call 120;refine (HHX.out _ (p + 1) HP1N.out HT.out.ld HT.out.ol).mono ?_;(rintro r w9 ⟨A9,m9,c9,q9,rfl,hl9,ho9,hr9⟩);have HL9:=lH hl9;have HO9:=lH ho9;have HR9:=lH hr9;have HT9:=lH (HT.out.moved hl9 ho9);have kb3:=HT9.out.bx.c3;have kbf:=HT9.out.bx.fr;clear hl9 ho9 hr9))
     go_ret
     exact RkP.row HT.out HWB.out HBW.out HL9.out HO9.out HR9.out rfl
    ·have hT:tokZ zs p = ⟨4,0,0,[],p⟩:=by rw [tokZ,hy,hy2,if_neg (by decide),if_neg (by decide),if_neg (by decide),if_neg (by decide),if_neg (by decide),if_neg (fun e=>absurd e.1 (by decide)),if_neg (fun e=>h62 e.2),if_neg (by decide),if_neg (by decide),if_neg (by decide)]
     rw [hT]
     have y262:(y2 == 62) = false:=beq_eq_false_iff_ne.2 h62
     clear hT hy hy2 hbd hneg hle hnm hrg h62
     go_enter Tryz.func103,Tryz.ntmps103
     go_wp2_with (first
      | (go_at_call 57;(with_reducible refine (HP0.out _ _ _ _ _ _ HT.out).mono ?_);(rintro r wa ⟨rfl,hta,hsa⟩);(try dsimp only);have HT:=lH hta;have HSA:=lH (Nat.le_trans HSA.out hsa);have c1:=hta.ld.c1;have cf:=hta.ld.fr 1;have kb0:=hta.bx.c0;have kb2:=hta.bx.c2;have kb3:=hta.bx.c3;have kbf:=hta.bx.fr;clear hta hsa)
      | (go_at_call 57;(with_reducible refine (HP1.out _ _ _ _ _ _ HT.out).mono ?_);(rintro r wa ⟨rfl,hta,hsa⟩);(try dsimp only);have HT:=lH hta;have HSA:=lH (Nat.le_trans HSA.out hsa);have c1:=hta.ld.c1;have cf:=hta.ld.fr 1;have kb0:=hta.bx.c0;have kb2:=hta.bx.c2;have kb3:=hta.bx.c3;have kbf:=hta.bx.fr;clear hta hsa)
      | (go_at_call 56;refine (HRG.out _).mono ?_;(rintro r w7 ⟨rfl,rfl⟩);(try dsimp only)))
     go_ret
     exact RkP.bad HT.out rfl (by decide)
    ·obtain ⟨a1,a2,a3,a4,a5,a6⟩:=hA
     obtain ⟨n1,n2,n3,n4⟩:=nm_no y hnm
     have hT:tokZ zs p = ⟨4,0,0,[],p⟩:=by rw [tokZ,hy,hy2,if_neg hneg,if_neg (by rw [hnm];decide),if_neg (by rw [hrg];decide),if_neg a1,if_neg a2,if_neg (fun e=>a3 e.1),if_neg (fun e=>a4 e.1),if_neg a5,if_neg a6,if_neg a3]
     rw [hT]
     have b1:(y == 91) = false:=beq_eq_false_iff_ne.2 a1
     have b2:(y == 93) = false:=beq_eq_false_iff_ne.2 a2
     have b3:(y == 60) = false:=beq_eq_false_iff_ne.2 a3
     have b4:(y == 62) = false:=beq_eq_false_iff_ne.2 a4
     have b5:(y == 47) = false:=beq_eq_false_iff_ne.2 a5
     have b6:(y == 40) = false:=beq_eq_false_iff_ne.2 a6
     clear hT hy hy2 hbd hneg hle hnm hrg a1 a2 a3 a4 a5 a6
     rcases n4 with n4 | n4
     ·have n5:decide (48 ≤ y) = false:=decide_eq_false (by omega)
      go_enter Tryz.func103,Tryz.ntmps103
      go_wp2_with (first
       | (go_at_call 57;(with_reducible refine (HP0.out _ _ _ _ _ _ HT.out).mono ?_);(rintro r wa ⟨rfl,hta,hsa⟩);(try dsimp only);have HT:=lH hta;have HSA:=lH (Nat.le_trans HSA.out hsa);have c1:=hta.ld.c1;have cf:=hta.ld.fr 1;have kb0:=hta.bx.c0;have kb2:=hta.bx.c2;have kb3:=hta.bx.c3;have kbf:=hta.bx.fr;clear hta hsa)
       | (go_at_call 57;(with_reducible refine (HP1.out _ _ _ _ _ _ HT.out).mono ?_);(rintro r wa ⟨rfl,hta,hsa⟩);(try dsimp only);have HT:=lH hta;have HSA:=lH (Nat.le_trans HSA.out hsa);have c1:=hta.ld.c1;have cf:=hta.ld.fr 1;have kb0:=hta.bx.c0;have kb2:=hta.bx.c2;have kb3:=hta.bx.c3;have kbf:=hta.bx.fr;clear hta hsa)
       | (go_at_call 56;refine (HRG.out _).mono ?_;(rintro r w7 ⟨rfl,rfl⟩);(try dsimp only)))
      go_ret
      exact RkP.bad HT.out rfl (by decide)
     ·have n5:decide (y ≤ 57) = false:=decide_eq_false (by omega)
      go_enter Tryz.func103,Tryz.ntmps103
      go_wp2_with (first
       | (go_at_call 57;(with_reducible refine (HP0.out _ _ _ _ _ _ HT.out).mono ?_);(rintro r wa ⟨rfl,hta,hsa⟩);(try dsimp only);have HT:=lH hta;have HSA:=lH (Nat.le_trans HSA.out hsa);have c1:=hta.ld.c1;have cf:=hta.ld.fr 1;have kb0:=hta.bx.c0;have kb2:=hta.bx.c2;have kb3:=hta.bx.c3;have kbf:=hta.bx.fr;clear hta hsa)
       | (go_at_call 57;(with_reducible refine (HP1.out _ _ _ _ _ _ HT.out).mono ?_);(rintro r wa ⟨rfl,hta,hsa⟩);(try dsimp only);have HT:=lH hta;have HSA:=lH (Nat.le_trans HSA.out hsa);have c1:=hta.ld.c1;have cf:=hta.ld.fr 1;have kb0:=hta.bx.c0;have kb2:=hta.bx.c2;have kb3:=hta.bx.c3;have kbf:=hta.bx.fr;clear hta hsa)
       | (go_at_call 56;refine (HRG.out _).mono ?_;(rintro r w7 ⟨rfl,rfl⟩);(try dsimp only)))
      go_ret
      exact RkP.bad HT.out rfl (by decide)
   ·rw [hrg] at HRG
    obtain ⟨n1,n2,n3,n4⟩:=nm_no y hnm
    have hd:delB y = false:=by
     unfold regB at hrg
     simp at hrg
     exact hrg.1
    obtain ⟨d1,d2,d3,d4,d5,d6,d7,d8,d9,d10⟩:=del_nor y hd
    have hT:tokZ zs p = if 127 < rowZ regB (zs.drop p) then ⟨3,0,0,[],p⟩ else ⟨0,9,0,(zs.drop p).take (rowZ regB (zs.drop p)),p + rowZ regB (zs.drop p)⟩:=by rw [tokZ,hy,if_neg hneg,if_neg (by rw [hnm];decide),if_pos hrg]
    rw [hT]
    obtain ⟨K,hK⟩:∃ K,rowZ regB (zs.drop p) = K:=⟨_,rfl⟩
    rw [hK] at HRN ⊢
    clear hT hy hy2 hbd hneg hle hnm hrg hd hK
    by_cases h127:127 < K
    ·rw [if_pos h127]
     have hbig:decide ((K:Int) > 127) = true:=decide_eq_true (by omega)
     have hbig2:decide (127 < (K:Int)) = true:=decide_eq_true (by omega)
     have hbig3:decide (127 < K) = true:=decide_eq_true (by omega)
     clear h127
     rcases n4 with n4 | n4
     ·have n5:decide (48 ≤ y) = false:=decide_eq_false (by omega)
      go_enter Tryz.func103,Tryz.ntmps103
      go_upto_region 34 with (first
       | (go_at_call 57;(with_reducible refine (HP0.out _ _ _ _ _ _ HT.out).mono ?_);(rintro r wa ⟨rfl,hta,hsa⟩);(try dsimp only);have HT:=lH hta;have HSA:=lH (Nat.le_trans HSA.out hsa);have c1:=hta.ld.c1;have cf:=hta.ld.fr 1;have kb0:=hta.bx.c0;have kb2:=hta.bx.c2;have kb3:=hta.bx.c3;have kbf:=hta.bx.fr;clear hta hsa)
       | (go_at_call 57;(with_reducible refine (HP1.out _ _ _ _ _ _ HT.out).mono ?_);(rintro r wa ⟨rfl,hta,hsa⟩);(try dsimp only);have HT:=lH hta;have HSA:=lH (Nat.le_trans HSA.out hsa);have c1:=hta.ld.c1;have cf:=hta.ld.fr 1;have kb0:=hta.bx.c0;have kb2:=hta.bx.c2;have kb3:=hta.bx.c3;have kbf:=hta.bx.fr;clear hta hsa)
       | (go_at_call 56;refine (HRG.out _).mono ?_;(rintro r w7 ⟨rfl,rfl⟩);(try dsimp only)))
      have ht:=HT.out.set0 9
      obtain ⟨wb,hwb⟩:∃ wb,wa.setCell ⟨b,0,none⟩ (.int .i64 9) = wb:=⟨_,rfl⟩
      have hsz:wb.heap.size = wa.heap.size:=by rw [← hwb];simp [World.setCell]
      rw [hwb] at ht
      rw [hwb]
      have HT:=lH ht
      have HWB:=lH (show W.heap.size ≤ wb.heap.size by rw [hsz];exact HSA.out)
      have kb3:=ht.bx.c3
      have kbf:=ht.bx.fr
      clear ht hwb hsz
      go_upto_region 35 with (first
       | (go_at_call 122;refine (HRN.out _ HT.out.ld HT.out.ol).mono ?_;(rintro r w9 ⟨v9,rfl,hm9,hl9,ho9⟩);obtain ⟨A9,c9,rfl,hy9⟩:=hm9.byt;have HL9:=lH hl9;have HO9:=lH ho9;have HM9:=lH hm9;have HT9:=lH (HT.out.moved hl9 ho9);have kb3:=HT9.out.bx.c3;have kbf:=HT9.out.bx.fr;clear hl9 ho9 hm9 hy9))
      have kb3:=(HT9.out.set3 A9 K c9).bx.c3
      go_wp2_with fail
      go_ret
      exact RkP.bad ((HT9.out).set3 _ _ _) rfl (by decide)
     ·have n5:decide (y ≤ 57) = false:=decide_eq_false (by omega)
      go_enter Tryz.func103,Tryz.ntmps103
      go_upto_region 34 with (first
       | (go_at_call 57;(with_reducible refine (HP0.out _ _ _ _ _ _ HT.out).mono ?_);(rintro r wa ⟨rfl,hta,hsa⟩);(try dsimp only);have HT:=lH hta;have HSA:=lH (Nat.le_trans HSA.out hsa);have c1:=hta.ld.c1;have cf:=hta.ld.fr 1;have kb0:=hta.bx.c0;have kb2:=hta.bx.c2;have kb3:=hta.bx.c3;have kbf:=hta.bx.fr;clear hta hsa)
       | (go_at_call 57;(with_reducible refine (HP1.out _ _ _ _ _ _ HT.out).mono ?_);(rintro r wa ⟨rfl,hta,hsa⟩);(try dsimp only);have HT:=lH hta;have HSA:=lH (Nat.le_trans HSA.out hsa);have c1:=hta.ld.c1;have cf:=hta.ld.fr 1;have kb0:=hta.bx.c0;have kb2:=hta.bx.c2;have kb3:=hta.bx.c3;have kbf:=hta.bx.fr;clear hta hsa)
       | (go_at_call 56;refine (HRG.out _).mono ?_;(rintro r w7 ⟨rfl,rfl⟩);(try dsimp only)))
      have ht:=HT.out.set0 9
      obtain ⟨wb,hwb⟩:∃ wb,wa.setCell ⟨b,0,none⟩ (.int .i64 9) = wb:=⟨_,rfl⟩
      have hsz:wb.heap.size = wa.heap.size:=by rw [← hwb];simp [World.setCell]
      rw [hwb] at ht
      rw [hwb]
      have HT:=lH ht
      have HWB:=lH (show W.heap.size ≤ wb.heap.size by rw [hsz];exact HSA.out)
      have kb3:=ht.bx.c3
      have kbf:=ht.bx.fr
      clear ht hwb hsz
      go_upto_region 35 with (first
       | (go_at_call 122;refine (HRN.out _ HT.out.ld HT.out.ol).mono ?_;(rintro r w9 ⟨v9,rfl,hm9,hl9,ho9⟩);obtain ⟨A9,c9,rfl,hy9⟩:=hm9.byt;have HL9:=lH hl9;have HO9:=lH ho9;have HM9:=lH hm9;have HT9:=lH (HT.out.moved hl9 ho9);have kb3:=HT9.out.bx.c3;have kbf:=HT9.out.bx.fr;clear hl9 ho9 hm9 hy9))
      have kb3:=(HT9.out.set3 A9 K c9).bx.c3
      go_wp2_with fail
      go_ret
      exact RkP.bad ((HT9.out).set3 _ _ _) rfl (by decide)
    ·rw [if_neg h127]
     have hbig:decide ((K:Int) > 127) = false:=decide_eq_false (by omega)
     have hbig2:decide (127 < (K:Int)) = false:=decide_eq_false (by omega)
     have hbig3:decide (127 < K) = false:=decide_eq_false (by omega)
     clear h127
     rcases n4 with n4 | n4
     ·have n5:decide (48 ≤ y) = false:=decide_eq_false (by omega)
      go_enter Tryz.func103,Tryz.ntmps103
      go_upto_region 34 with (first
       | (go_at_call 57;(with_reducible refine (HP0.out _ _ _ _ _ _ HT.out).mono ?_);(rintro r wa ⟨rfl,hta,hsa⟩);(try dsimp only);have HT:=lH hta;have HSA:=lH (Nat.le_trans HSA.out hsa);have c1:=hta.ld.c1;have cf:=hta.ld.fr 1;have kb0:=hta.bx.c0;have kb2:=hta.bx.c2;have kb3:=hta.bx.c3;have kbf:=hta.bx.fr;clear hta hsa)
       | (go_at_call 57;(with_reducible refine (HP1.out _ _ _ _ _ _ HT.out).mono ?_);(rintro r wa ⟨rfl,hta,hsa⟩);(try dsimp only);have HT:=lH hta;have HSA:=lH (Nat.le_trans HSA.out hsa);have c1:=hta.ld.c1;have cf:=hta.ld.fr 1;have kb0:=hta.bx.c0;have kb2:=hta.bx.c2;have kb3:=hta.bx.c3;have kbf:=hta.bx.fr;clear hta hsa)
       | (go_at_call 56;refine (HRG.out _).mono ?_;(rintro r w7 ⟨rfl,rfl⟩);(try dsimp only)))
      have ht:=HT.out.set0 9
      obtain ⟨wb,hwb⟩:∃ wb,wa.setCell ⟨b,0,none⟩ (.int .i64 9) = wb:=⟨_,rfl⟩
      have hsz:wb.heap.size = wa.heap.size:=by rw [← hwb];simp [World.setCell]
      rw [hwb] at ht
      rw [hwb]
      have HT:=lH ht
      have HWB:=lH (show W.heap.size ≤ wb.heap.size by rw [hsz];exact HSA.out)
      have kb3:=ht.bx.c3
      have kbf:=ht.bx.fr
      clear ht hwb hsz
      go_upto_region 35 with (first
       | (go_at_call 122;refine (HRN.out _ HT.out.ld HT.out.ol).mono ?_;(rintro r w9 ⟨v9,rfl,hm9,hl9,ho9⟩);obtain ⟨A9,c9,rfl,hy9⟩:=hm9.byt;have HL9:=lH hl9;have HO9:=lH ho9;have HM9:=lH hm9;have HT9:=lH (HT.out.moved hl9 ho9);have kb3:=HT9.out.bx.c3;have kbf:=HT9.out.bx.fr;clear hl9 ho9 hm9 hy9))
      have kb3:=(HT9.out.set3 A9 K c9).bx.c3
      go_wp2_with fail
      go_ret
      exact RkP.row (R:=(0,(zs.drop p).take K,p + K)) HT.out HWB.out HBW.out HL9.out HO9.out (fun _=>⟨rfl,HM9.out⟩) rfl
     ·have n5:decide (y ≤ 57) = false:=decide_eq_false (by omega)
      go_enter Tryz.func103,Tryz.ntmps103
      go_upto_region 34 with (first
       | (go_at_call 57;(with_reducible refine (HP0.out _ _ _ _ _ _ HT.out).mono ?_);(rintro r wa ⟨rfl,hta,hsa⟩);(try dsimp only);have HT:=lH hta;have HSA:=lH (Nat.le_trans HSA.out hsa);have c1:=hta.ld.c1;have cf:=hta.ld.fr 1;have kb0:=hta.bx.c0;have kb2:=hta.bx.c2;have kb3:=hta.bx.c3;have kbf:=hta.bx.fr;clear hta hsa)
       | (go_at_call 57;(with_reducible refine (HP1.out _ _ _ _ _ _ HT.out).mono ?_);(rintro r wa ⟨rfl,hta,hsa⟩);(try dsimp only);have HT:=lH hta;have HSA:=lH (Nat.le_trans HSA.out hsa);have c1:=hta.ld.c1;have cf:=hta.ld.fr 1;have kb0:=hta.bx.c0;have kb2:=hta.bx.c2;have kb3:=hta.bx.c3;have kbf:=hta.bx.fr;clear hta hsa)
       | (go_at_call 56;refine (HRG.out _).mono ?_;(rintro r w7 ⟨rfl,rfl⟩);(try dsimp only)))
      have ht:=HT.out.set0 9
      obtain ⟨wb,hwb⟩:∃ wb,wa.setCell ⟨b,0,none⟩ (.int .i64 9) = wb:=⟨_,rfl⟩
      have hsz:wb.heap.size = wa.heap.size:=by rw [← hwb];simp [World.setCell]
      rw [hwb] at ht
      rw [hwb]
      have HT:=lH ht
      have HWB:=lH (show W.heap.size ≤ wb.heap.size by rw [hsz];exact HSA.out)
      have kb3:=ht.bx.c3
      have kbf:=ht.bx.fr
      clear ht hwb hsz
      go_upto_region 35 with (first
       | (go_at_call 122;refine (HRN.out _ HT.out.ld HT.out.ol).mono ?_;(rintro r w9 ⟨v9,rfl,hm9,hl9,ho9⟩);obtain ⟨A9,c9,rfl,hy9⟩:=hm9.byt;have HL9:=lH hl9;have HO9:=lH ho9;have HM9:=lH hm9;have HT9:=lH (HT.out.moved hl9 ho9);have kb3:=HT9.out.bx.c3;have kbf:=HT9.out.bx.fr;clear hl9 ho9 hm9 hy9))
      have kb3:=(HT9.out.set3 A9 K c9).bx.c3
      go_wp2_with fail
      go_ret
      exact RkP.row (R:=(0,(zs.drop p).take K,p + K)) HT.out HWB.out HBW.out HL9.out HO9.out (fun _=>⟨rfl,HM9.out⟩) rfl
  ·have hT:tokZ zs p = ⟨(parseS ((zs.drop p).take (rowZ regB (zs.drop p)))).2.2,if (parseS ((zs.drop p).take (rowZ regB (zs.drop p)))).2.1 = true then 1 else 2,(parseS ((zs.drop p).take (rowZ regB (zs.drop p)))).1,[],p + rowZ regB (zs.drop p)⟩:=by rw [tokZ,hy,if_neg hneg,if_pos hnm]
   rw [hT]
   have HFI:Hid (∀ w' ,TS w w' m T X A n c (p + rowZ regB (zs.drop p)) b (if (parseS ((zs.drop p).take (rowZ regB (zs.drop p)))).2.1 = true then 1 else 2) a (parseS ((zs.drop p).take (rowZ regB (zs.drop p)))).1 none 0 0 → RkP w m T X A n c b a ⟨(parseS ((zs.drop p).take (rowZ regB (zs.drop p)))).2.2,if (parseS ((zs.drop p).take (rowZ regB (zs.drop p)))).2.1 = true then 1 else 2,(parseS ((zs.drop p).take (rowZ regB (zs.drop p)))).1,[],p + rowZ regB (zs.drop p)⟩ W (.returned (.int .i64 (parseS ((zs.drop p).take (rowZ regB (zs.drop p)))).2.2)) w'):=lH (fun w' x=>RkP.plain x rfl rfl)
   obtain ⟨Z,hZ⟩:∃ Z,parseS ((zs.drop p).take (rowZ regB (zs.drop p))) = Z:=⟨_,rfl⟩
   rw [hZ] at HNB HFI ⊢
   obtain ⟨tk,htk⟩:∃ tk:Tk,(⟨Z.2.2,if Z.2.1 = true then 1 else 2,Z.1,[],p + rowZ regB (zs.drop p)⟩:Tk) = tk:=⟨_,rfl⟩
   obtain ⟨kk,hkk⟩:∃ kk:Int,(if Z.2.1 = true then 1 else 2) = kk:=⟨_,rfl⟩
   rw [htk] at HFI ⊢
   rw [hkk] at HFI HNB
   have hcs:=nm_lits y hnm
   clear hT hy hy2 hbd hneg hle hnm hZ htk hkk
   rcases hcs with rfl | rfl | rfl | ⟨g1,g2⟩
   ·go_enter Tryz.func103,Tryz.ntmps103
    go_wp2_with (first
     | (go_at_call 57;(with_reducible refine (HP0.out _ _ _ _ _ _ HT.out).mono ?_);(rintro r wa ⟨rfl,hta,hsa⟩);(try dsimp only);have HT:=lH hta;have HSA:=lH (Nat.le_trans HSA.out hsa);have c1:=hta.ld.c1;have cf:=hta.ld.fr 1;have kb0:=hta.bx.c0;have kb2:=hta.bx.c2;have kb3:=hta.bx.c3;have kbf:=hta.bx.fr;clear hta hsa)
     | (go_at_call 121;refine (HNB.out _ _ _ _ _ _ HT.out).mono ?_;(rintro r w9 ⟨rfl,ht9⟩);have HT9:=lH ht9;clear ht9))
    go_ret
    exact HFI.out _ HT9.out
   ·go_enter Tryz.func103,Tryz.ntmps103
    go_wp2_with (first
     | (go_at_call 57;(with_reducible refine (HP0.out _ _ _ _ _ _ HT.out).mono ?_);(rintro r wa ⟨rfl,hta,hsa⟩);(try dsimp only);have HT:=lH hta;have HSA:=lH (Nat.le_trans HSA.out hsa);have c1:=hta.ld.c1;have cf:=hta.ld.fr 1;have kb0:=hta.bx.c0;have kb2:=hta.bx.c2;have kb3:=hta.bx.c3;have kbf:=hta.bx.fr;clear hta hsa)
     | (go_at_call 121;refine (HNB.out _ _ _ _ _ _ HT.out).mono ?_;(rintro r w9 ⟨rfl,ht9⟩);have HT9:=lH ht9;clear ht9))
    go_ret
    exact HFI.out _ HT9.out
   ·go_enter Tryz.func103,Tryz.ntmps103
    go_wp2_with (first
     | (go_at_call 57;(with_reducible refine (HP0.out _ _ _ _ _ _ HT.out).mono ?_);(rintro r wa ⟨rfl,hta,hsa⟩);(try dsimp only);have HT:=lH hta;have HSA:=lH (Nat.le_trans HSA.out hsa);have c1:=hta.ld.c1;have cf:=hta.ld.fr 1;have kb0:=hta.bx.c0;have kb2:=hta.bx.c2;have kb3:=hta.bx.c3;have kbf:=hta.bx.fr;clear hta hsa)
     | (go_at_call 121;refine (HNB.out _ _ _ _ _ _ HT.out).mono ?_;(rintro r w9 ⟨rfl,ht9⟩);have HT9:=lH ht9;clear ht9))
    go_ret
    exact HFI.out _ HT9.out
   ·go_enter Tryz.func103,Tryz.ntmps103
    go_wp2_with (first
     | (go_at_call 57;(with_reducible refine (HP0.out _ _ _ _ _ _ HT.out).mono ?_);(rintro r wa ⟨rfl,hta,hsa⟩);(try dsimp only);have HT:=lH hta;have HSA:=lH (Nat.le_trans HSA.out hsa);have c1:=hta.ld.c1;have cf:=hta.ld.fr 1;have kb0:=hta.bx.c0;have kb2:=hta.bx.c2;have kb3:=hta.bx.c3;have kbf:=hta.bx.fr;clear hta hsa)
     | (go_at_call 121;refine (HNB.out _ _ _ _ _ _ HT.out).mono ?_;(rintro r w9 ⟨rfl,ht9⟩);have HT9:=lH ht9;clear ht9))
    go_ret
    exact HFI.out _ HT9.out
end
section
open Go.RowKit
set_option linter.unusedVariables false
set_option maxRecDepth 100000
theorem dg_in12 (zs:List Int) (p:Nat) (h:0 ≤ dgZ (peekZ zs (p:Int))):p < zs.length:=by
 rcases Nat.lt_or_ge p zs.length with hp | hp
 ·exact hp
 ·rw [peekZ_nat zs p hp] at h;exact absurd h (by decide)
theorem reg_in12 (zs:List Int) (p:Nat) (h:regB (peekZ zs (p:Int)) = true):p < zs.length:=by
 rcases Nat.lt_or_ge p zs.length with hp | hp
 ·exact hp
 ·rw [peekZ_nat zs p hp] at h;exact absurd h (by decide)
theorem oct_in12 (zs:List Int) (p:Nat) (h:octB (peekZ zs (p:Int)) = true):p < zs.length:=by
 rcases Nat.lt_or_ge p zs.length with hp | hp
 ·exact hp
 ·rw [peekZ_nat zs p hp] at h;exact absurd h (by decide)
theorem name_q12 (zs:List Int):∀ (f p:Nat) (o:List Int),p ≤ zs.length → (nameF zs f p o).2.2 ≤ zs.length
 | 0,p,o,h=>h
 | f + 1,p,o,h=>by
  rw [nameF]
  split
  ·exact h
  rename_i hr
  have hp:=reg_in12 zs p (by simpa using hr)
  split
  ·split
   ·exact h
   ·rename_i hd
    have h2:=dg_in12 zs (p + 2) (by omega)
    split
    ·exact h
    ·exact name_q12 zs f (p + 3) _ (by omega)
  ·split
   ·exact h
   ·exact name_q12 zs f (p + 1) _ (by omega)
theorem esc_q12 (zs:List Int) (p:Nat) (h:p < zs.length):(escZ zs p).2 ≤ zs.length:=by
 unfold escZ
 split
 ·exact h
 split
 ·exact h
 split
 ·exact h
 split
 ·exact h
 split
 ·exact h
 split
 ·dsimp only
  split
  ·rename_i h10
   have:=peekZ_lt zs (p + 1) (by omega)
   omega
  ·exact h
 split
 ·exact h
 split
 ·split
  ·rename_i h1
   have h1:=oct_in12 zs (p + 1) h1
   split
   ·rename_i h2
    have h2:=oct_in12 zs (p + 2) h2
    dsimp only;omega
   ·dsimp only;omega
  ·exact h
 ·exact h
theorem pc_q12 (zs:List Int) (p:Nat) (h:p < zs.length):(pcZ zs p).2.1 ≤ zs.length:=by
 unfold pcZ
 split
 ·split
  ·exact h
  ·exact esc_q12 zs (p + 1) (by omega)
 split
 ·dsimp only
  split
  ·rename_i h10
   have:=peekZ_lt zs (p + 1) (by omega)
   omega
  ·exact h
 ·exact h
theorem text_q12 (zs:List Int):∀ (f p:Nat) (k:Int) (o:List Int),p ≤ zs.length → (textF zs f p k o).2.2 ≤ zs.length
 | 0,p,k,o,h=>h
 | f + 1,p,k,o,h=>by
  rw [textF]
  split
  ·exact h
  rename_i hp
  have hq:=pc_q12 zs p (by omega)
  split
  ·exact hq
  split
  ·exact text_q12 zs f _ _ _ hq
  split
  ·exact hq
  ·exact text_q12 zs f _ _ _ hq
theorem row_q12 (K:Int → Bool) (zs:List Int) (p:Nat) (h:p ≤ zs.length):p + rowZ K (zs.drop p) ≤ zs.length:=by
 have:=rowZ_le K (zs.drop p)
 rw [List.length_drop] at this
 omega
theorem tokZ_q (zs:List Int) (p:Nat) (hp:p ≤ zs.length) (h0:(tokZ zs p).e = 0):(tokZ zs p).q ≤ zs.length:=by
 have hr:=row_q12 regB zs p hp
 unfold tokZ at h0 ⊢
 by_cases c0:peekZ zs (p:Int) < 0
 ·rw [if_pos c0];exact hp
 rw [if_neg c0] at h0 ⊢
 have hlt:=peekZ_lt zs p (by omega)
 by_cases c1:nmB (peekZ zs (p:Int)) = true
 ·rw [if_pos c1];exact hr
 rw [if_neg c1] at h0 ⊢
 by_cases c2:regB (peekZ zs (p:Int)) = true
 ·rw [if_pos c2]
  by_cases d:127 < rowZ regB (zs.drop p)
  ·rw [if_pos d];exact hp
  ·rw [if_neg d];exact hr
 rw [if_neg c2] at h0 ⊢
 by_cases c3:peekZ zs (p:Int) = 91
 ·rw [if_pos c3];exact hlt
 rw [if_neg c3] at h0 ⊢
 by_cases c4:peekZ zs (p:Int) = 93
 ·rw [if_pos c4];exact hlt
 rw [if_neg c4] at h0 ⊢
 by_cases c5:peekZ zs (p:Int) = 60 ∧ peekZ zs ((p + 1:Nat):Int) = 60
 ·rw [if_pos c5];exact peekZ_lt zs (p + 1) (by omega)
 rw [if_neg c5] at h0 ⊢
 by_cases c6:peekZ zs (p:Int) = 62 ∧ peekZ zs ((p + 1:Nat):Int) = 62
 ·rw [if_pos c6];exact peekZ_lt zs (p + 1) (by omega)
 rw [if_neg c6] at h0 ⊢
 by_cases c7:peekZ zs (p:Int) = 47
 ·rw [if_pos c7];exact name_q12 zs _ _ _ hlt
 rw [if_neg c7] at h0 ⊢
 by_cases c8:peekZ zs (p:Int) = 40
 ·rw [if_pos c8];exact text_q12 zs _ _ _ _ hlt
 rw [if_neg c8] at h0 ⊢
 by_cases c9:peekZ zs (p:Int) = 60
 ·rw [if_pos c9] at h0 ⊢
  dsimp only at h0 ⊢
  unfold hexZ at h0 ⊢
  dsimp only at h0 ⊢
  have hu:(unhxR 32767 (zs.drop (p + 1)) (-1) []).2 = 0:=by
   by_cases h7:(unhxR 32767 (zs.drop (p + 1)) (-1) []).2 = 7
   ·rw [if_pos h7] at h0;exact absurd h0 (by decide)
   ·rw [if_neg h7] at h0;exact h0
  have:=unhx_row 32767 _ _ _ hu
  rw [List.length_drop] at this
  omega
 rw [if_neg c9] at h0
 exact absurd h0 (by simp)
theorem tokT_q (zs:List Int) (p:Nat) (hp:p ≤ zs.length):(tokT zs p).q ≤ zs.length:=by
 have hb:=(blkP_le zs p hp).2
 unfold tokT
 by_cases h:(tokZ zs (blkP zs p)).e = 0
 ·rw [if_pos h];exact tokZ_q zs _ hb h
 ·rw [if_neg h];exact hb
end
end Go.Proofs.YtpomkhcobpihmaaGreat
