/- Lemmas. -/
import Derived.Test.YtpomkhcobpihmaaGreatPad17
namespace Go.Proofs.YtpomkhcobpihmaaGreat
set_option maxRecDepth 100000
set_option linter.unusedVariables false
section
open Go.RowKit
structure TS (w W:World) (m:Nat) (T:TypeId) (X:List Value) (A:Option Addr) (n c q:Nat) (b:Nat) (k a v:Int) (A':Option Addr) (m' c':Nat):Prop where
 ld:LD W m T X A n c q
 ol:Only m w W
 bx:Bx W b 99 (.int .i64 k) (.int .i64 a) (.int .i64 v) (.slice A' m' c')
 lb:w.heap.size ≤ b
 lm:m < w.heap.size
section
variable {w W W':World} {m n c q q' b m' c':Nat} {T:TypeId} {X:List Value} {A A':Option Addr} {k a v:Int}
theorem TS.drewN (x:TS w W m T X A n c q b k a v A' m' c') (j:Nat):TS w (W.drewN j) m T X A n c q b k a v A' m' c':=⟨x.ld.drewN j,x.ol.drewN j,x.bx,x.lb,x.lm⟩
theorem TS.moved (x:TS w W m T X A n c q b k a v A' m' c') (hl:LD W' m T X A n c q') (ho:Only m W W'):TS w W' m T X A n c q' b k a v A' m' c' :=
 ⟨hl,x.ol.trans ho,x.bx.only ho (by have:=x.lb;have:=x.lm;omega),x.lb,x.lm⟩
theorem TS.setP (x:TS w W m T X A n c q b k a v A' m' c') (q':Nat) (z:Int) (hz:z = q'):TS w (W.setCell ⟨m,1,none⟩ (.int .i64 z)) m T X A n c q' b k a v A' m' c' :=
 x.moved (x.ld.setI q' z hz) ((Only.refl m W).set_ 1 _)
theorem TS.set0 (x:TS w W m T X A n c q b k a v A' m' c') (z:Int):TS w (W.setCell ⟨b,0,none⟩ (.int .i64 z)) m T X A n c q b z a v A' m' c' :=
 ⟨x.ld.keep (Below.heap_setCell W ⟨b,0,none⟩ _ m (by show m ≠ b;have:=x.lb;have:=x.lm;omega)),x.ol.setN x.lb 0 _,heap_set W b 0 _ [.int .i64 k,.int .i64 a,.int .i64 v,.slice A' m' c'] _ x.bx,x.lb,x.lm⟩
theorem TS.set2 (x:TS w W m T X A n c q b k a v A' m' c') (z:Int):TS w (W.setCell ⟨b,2,none⟩ (.int .i64 z)) m T X A n c q b k a z A' m' c' :=
 ⟨x.ld.keep (Below.heap_setCell W ⟨b,2,none⟩ _ m (by show m ≠ b;have:=x.lb;have:=x.lm;omega)),x.ol.setN x.lb 2 _,heap_set W b 2 _ [.int .i64 k,.int .i64 a,.int .i64 v,.slice A' m' c'] _ x.bx,x.lb,x.lm⟩
theorem TS.set3 (x:TS w W m T X A n c q b k a v A' m' c') (A2:Option Addr) (m2 c2:Nat):TS w (W.setCell ⟨b,3,none⟩ (.slice A2 m2 c2)) m T X A n c q b k a v A2 m2 c2 :=
 ⟨x.ld.keep (Below.heap_setCell W ⟨b,3,none⟩ _ m (by show m ≠ b;have:=x.lb;have:=x.lm;omega)),x.ol.setN x.lb 3 _,heap_set W b 3 _ [.int .i64 k,.int .i64 a,.int .i64 v,.slice A' m' c'] _ x.bx,x.lb,x.lm⟩
theorem tpk0 {B:Nat} {zs:List Int} (x:TS w W m T X A n c q b k a v A' m' c') (hb:Byt w B A n c zs) (hB:B ≤ m) (hn:n ≤ 1000000) (hq:q ≤ 1500000) :
  Calls Tryz.prog 57 #[.pointer (some ⟨m,0,none⟩),.int .i64 0] W fun e w'=>e = .returned (.int .i64 (peekZ zs (q:Int))) ∧ TS w w' m T X A n c q b k a v A' m' c' ∧ W.heap.size ≤ w'.heap.size :=
 (rpeek0 m n c q B T X A zs W x.ld (hb.only x.ol hB (Nat.le_of_lt x.lm)) hn (by omega)).mono fun _ _ ⟨h1,j,h2⟩=>⟨h1,by rw [h2];exact x.drewN j,by rw [h2];exact Nat.le_refl _⟩
theorem tpk1 {B:Nat} {zs:List Int} (x:TS w W m T X A n c q b k a v A' m' c') (hb:Byt w B A n c zs) (hB:B ≤ m) (hn:n ≤ 1000000) (hq:q ≤ 1500000) :
  Calls Tryz.prog 57 #[.pointer (some ⟨m,0,none⟩),.int .i64 1] W fun e w'=>e = .returned (.int .i64 (peekZ zs ((q + 1:Nat):Int))) ∧ TS w w' m T X A n c q b k a v A' m' c' ∧ W.heap.size ≤ w'.heap.size :=
 (rpeek1 m n c q B T X A zs W x.ld (hb.only x.ol hB (Nat.le_of_lt x.lm)) hn (by omega)).mono fun _ _ ⟨h1,j,h2⟩=>⟨h1,by rw [h2];exact x.drewN j,by rw [h2];exact Nat.le_refl _⟩
end
set_option maxHeartbeats 2000000 in
theorem rnumberC {w W:World} {m n c q b m' c' B:Nat} {T:TypeId} {X:List Value} {A A':Option Addr} {k a v:Int} {zs:List Int} (x:TS w W m T X A n c q b k a v A' m' c') (hb:Byt w B A n c zs) (hB:B ≤ m) (hn:n ≤ 1000000) (hq:q ≤ n) :
  Calls Tryz.prog 121 #[.pointer (some ⟨m,0,none⟩),.pointer (some ⟨b,0,none⟩)] W fun e w'=>e = .returned (.int .i64 (parseS ((zs.drop q).take (rowZ regB (zs.drop q)))).2.2) ∧ TS w w' m T X A n c (q + rowZ regB (zs.drop q)) b (if (parseS ((zs.drop q).take (rowZ regB (zs.drop q)))).2.1 = true then 1 else 2) a (parseS ((zs.drop q).take (rowZ regB (zs.drop q)))).1 A' m' c':=by
 have HRU:=lH (rrunC m n c q B T X A zs W x.ld (hb.only x.ol hB (Nat.le_of_lt x.lm)) hB hn hq)
 have hle:=rowZ_le regB (zs.drop q)
 rw [List.length_drop,hb.len] at hle
 have HX:=lH x
 obtain ⟨K,hK⟩:∃ K,rowZ regB (zs.drop q) = K:=⟨_,rfl⟩
 rw [hK] at HRU hle ⊢
 have HPA:=lH (fun (A9:Option Addr) (c9:Nat) (W':World) (hW:Byt W' W'.heap.size A9 K c9 ((zs.drop q).take K))=>refParse A9 K c9 W'.heap.size ((zs.drop q).take K) W' hW (by omega))
 obtain ⟨⟨N,wh,e⟩,hX⟩:∃ Y,parseS ((zs.drop q).take K) = Y:=⟨_,rfl⟩
 rw [hX] at HPA ⊢
 clear x hb hK hX hle
 unfold ParseOut at HPA
 cases wh
 all_goals
  go_enter Tryz.func121,Tryz.ntmps121
  go_wp2_with (first
   | (go_at_call 122;refine HRU.out.mono ?_;(rintro r w2 ⟨v9,rfl,hm2,hl2,ho2⟩);obtain ⟨A9,c9,rfl,hy2⟩:=hm2.byt;have HY2:=lH hy2;have HT:=lH (HX.out.moved hl2 ho2);have kb0:=HT.out.bx.c0;have kb2:=HT.out.bx.c2;have kbf:=HT.out.bx.fr;clear hm2 hl2 ho2 hy2)
   | (go_at_call 135;refine (HPA.out _ _ _ HY2.out).mono ?_;(rintro r w7 ⟨rfl,rfl⟩)))
  go_ret
  first
   | exact ⟨rfl,(HT.out.set0 2).set2 N⟩
   | exact ⟨rfl,((HT.out.set0 2).set0 1).set2 N⟩
def RkP (w:World) (m:Nat) (T:TypeId) (X:List Value) (A:Option Addr) (n c b:Nat) (a:Int) (t:Tk) (W:World) (r:Ending) (w':World):Prop :=
 ∃ (q:Nat) (k v:Int) (A':Option Addr) (m' c':Nat),r = .returned (.int .i64 t.e) ∧ TS w w' m T X A n c q b k a v A' m' c' ∧ (t.e = 0 → k = t.k ∧ v = t.v ∧ q = t.q ∧ Byt w' w'.heap.size A' m' c' t.b ∧ From W.heap.size A' m')
theorem RkP.plain {w W w':World} {m n c q b:Nat} {T:TypeId} {X:List Value} {A:Option Addr} {k a v:Int} {c':Nat} {t:Tk} {e:Int} (x:TS w w' m T X A n c q b k a v none 0 c') (ht:t = ⟨e,k,v,[],q⟩) (hc:c' = 0):RkP w m T X A n c b a t W (.returned (.int .i64 e)) w':=by
 subst ht hc
 exact ⟨q,k,v,none,0,0,rfl,x,fun _=>⟨rfl,rfl,rfl,Byt.none_ _ _,fun h=>absurd h (by omega)⟩⟩
theorem RkP.bad {w W w':World} {m n c q b m' c':Nat} {T:TypeId} {X:List Value} {A A':Option Addr} {k a v:Int} {t:Tk} {e:Int} (x:TS w w' m T X A n c q b k a v A' m' c') (ht:t.e = e) (h0:e ≠ 0):RkP w m T X A n c b a t W (.returned (.int .i64 e)) w':=by
 subst ht
 exact ⟨q,k,v,A',m',c',rfl,x,fun h=>absurd h h0⟩
theorem RkP.row {w W w1 w2:World} {m n c q q1 b:Nat} {T:TypeId} {X:List Value} {A A2:Option Addr} {k a v:Int} {A':Option Addr} {m' c' m2 c2:Nat} {R:Int × List Int × Nat} {t:Tk}
  (x:TS w w1 m T X A n c q b k a v A' m' c') (hW:W.heap.size ≤ w1.heap.size) (hbW:b < W.heap.size) (hl:LD w2 m T X A n c q1) (ho:Only m w1 w2) (hr:R.1 = 0 → q1 = R.2.2 ∧ Mine w2 w1.heap.size (.slice A2 m2 c2) m2 R.2.1) (ht:t = ⟨R.1,k,v,R.2.1,R.2.2⟩) :
  RkP w m T X A n c b a t W (.returned (.int .i64 R.1)) (w2.setCell ⟨b,3,none⟩ (.slice A2 m2 c2)):=by
 subst ht
 refine ⟨q1,k,v,A2,m2,c2,rfl,(x.moved hl ho).set3 A2 m2 c2,fun h0=>?_⟩
 obtain ⟨h1,h2⟩:=hr h0
 obtain ⟨A9,c9,e9,hy⟩:=h2.byt
 injection e9 with e1 _ e3
 subst e1 e3
 have hf:=h2.from_
 exact ⟨rfl,rfl,h1,by rw [show (w2.setCell ⟨b,3,none⟩ (.slice A2 m2 c2)).heap.size = w2.heap.size by simp [World.setCell]];exact hy.set_ hf (Nat.lt_of_lt_of_le hbW hW) 3 _,fun h b' o e=>by have:=hf h b' o e;omega⟩
theorem nm_lits (y:Int) (h:nmB y = true):y = 43 ∨ y = 45 ∨ y = 46 ∨ (48 ≤ y ∧ y ≤ 57):=by
 rcases nm_dig y h with h | h | h | h
 ·exact .inr (.inr (.inr h))
 ·exact .inl h
 ·exact .inr (.inl h)
 ·exact .inr (.inr (.inl h))
theorem nm_no (y:Int) (h:nmB y = false):(y == 43) = false ∧ (y == 45) = false ∧ (y == 46) = false ∧ (y < 48 ∨ 57 < y):=by
 unfold nmB at h
 simp at h ⊢
 omega
set_option maxHeartbeats 8000000 in
theorem rtokenC {w W:World} {m n c p b B:Nat} {T:TypeId} {X:List Value} {A:Option Addr} {a:Int} {zs:List Int} (x:TS w W m T X A n c p b 0 a 0 none 0 0) (hb:Byt w B A n c zs) (hB:B ≤ m) (hn:n ≤ 900000) (hp:p ≤ n) :
  Calls Tryz.prog 103 #[.pointer (some ⟨m,0,none⟩),.pointer (some ⟨b,0,none⟩)] W (RkP w m T X A n c b a (tokZ zs p) W):=by
 have HT:=lH x
 have HSA:Hid (W.heap.size ≤ W.heap.size):=lH (Nat.le_refl _)
 have HBW:=lH (show b < W.heap.size from x.bx.lt)
 have HL:=lH hb.len
 have HP0:=lH (fun W k v A' m' c' (x:TS w W m T X A n c p b k a v A' m' c')=>tpk0 x hb hB (by omega) (by omega))
 have HP1:=lH (fun W k v A' m' c' (x:TS w W m T X A n c p b k a v A' m' c')=>tpk1 x hb hB (by omega) (by omega))
 have HNM:=lH (fun W q (hq:q ≤ n) (hl:LD W m T X A n c q) (ho:Only m w W)=>rnameC m n c q B T X A zs W hl (hb.only ho hB (Nat.le_of_lt x.lm)) hB (by omega) hq)
 have HTX:=lH (fun W q (hq:q ≤ n) (hl:LD W m T X A n c q) (ho:Only m w W)=>rtextC m n c q B T X A zs W hl (hb.only ho hB (Nat.le_of_lt x.lm)) hB (by omega) hq)
 have HHX:=lH (fun W q (hq:q ≤ n) (hl:LD W m T X A n c q) (ho:Only m w W)=>rhexC m n c q B T X A zs W hl (hb.only ho hB (Nat.le_of_lt x.lm)) hB (by omega) hq)
 have HRN:=lH (fun W (hl:LD W m T X A n c p) (ho:Only m w W)=>rrunC m n c p B T X A zs W hl (hb.only ho hB (Nat.le_of_lt x.lm)) hB (by omega) hp)
 have HNB:=lH (fun W k v A' m' c' (x:TS w W m T X A n c p b k a v A' m' c')=>rnumberC x hb hB (by omega) hp)
 have hbd:=peekZ_bd zs hb.rng (p:Int)
 have hpn:0 ≤ peekZ zs (p:Int) → p + 1 ≤ n:=fun h=>by have:=peekZ_lt zs p h;have:=hb.len;omega
 have hle:=rowZ_le regB (zs.drop p)
 rw [List.length_drop,hb.len] at hle
 obtain ⟨y,hy⟩:∃ y,peekZ zs (p:Int) = y:=⟨_,rfl⟩
 obtain ⟨y2,hy2⟩:∃ y,peekZ zs ((p + 1:Nat):Int) = y:=⟨_,rfl⟩
 rw [hy] at HP0 hbd hpn
 rw [hy2] at HP1
 have HRG:=lH (fun W=>rregC y W)
 have HPN:=lH hpn
 have w1:IntKind.i64.wrap ((p:Int) + 1) = (p:Int) + 1:=IntWalk.i64_in _ (by omega)
 have w2:IntKind.i64.wrap ((p:Int) + 2) = (p:Int) + 2:=IntWalk.i64_in _ (by omega)
 have HQ1:Hid ((p:Int) + 1 = ((p + 1:Nat):Int)):=lH (by omega)
 have HQ2:Hid ((p:Int) + 2 = ((p + 2:Nat):Int)):=lH (by omega)
 have HW0:Hid (∀ W',Only m W W' → W.heap.size ≤ W'.heap.size):=lH (fun _ h=>h.size)
 clear x hb hp hpn
 by_cases hneg:y < 0
 ·obtain rfl:y = -1:=by omega
  have hT:tokZ zs p = ⟨0,0,0,[],p⟩:=by rw [tokZ,hy,if_pos (by decide)]
  rw [hT]
  clear hT hy hy2 hbd hneg hle
  go_enter Tryz.func103,Tryz.ntmps103
  go_wp2_with (first
   | (go_at_call 57;(with_reducible refine (HP0.out _ _ _ _ _ _ HT.out).mono ?_);(rintro r wa ⟨rfl,hta,hsa⟩);(try dsimp only);have HT:=lH hta;have HSA:=lH (Nat.le_trans HSA.out hsa);have c1:=hta.ld.c1;have cf:=hta.ld.fr 1;have kb0:=hta.bx.c0;have kb2:=hta.bx.c2;have kb3:=hta.bx.c3;have kbf:=hta.bx.fr;clear hta hsa)
   | (go_at_call 57;(with_reducible refine (HP1.out _ _ _ _ _ _ HT.out).mono ?_);(rintro r wa ⟨rfl,hta,hsa⟩);(try dsimp only);have HT:=lH hta;have HSA:=lH (Nat.le_trans HSA.out hsa);have c1:=hta.ld.c1;have cf:=hta.ld.fr 1;have kb0:=hta.bx.c0;have kb2:=hta.bx.c2;have kb3:=hta.bx.c3;have kbf:=hta.bx.fr;clear hta hsa)
   | (go_at_call 56;refine (HRG.out _).mono ?_;(rintro r w7 ⟨rfl,rfl⟩);(try dsimp only)))
  go_ret
  exact RkP.plain HT.out rfl rfl
 ·have hnegb:decide (y < 0) = false:=decide_eq_false hneg
  have HP1N:=lH (HPN.out (by omega))
  rcases hnm:nmB y with _ | _
  ·rcases hrg:regB y with _ | _
   ·rw [hrg] at HRG
    obtain rfl | rfl | ⟨rfl,h62⟩ | ⟨rfl,h62⟩ | rfl | rfl | ⟨rfl,h62⟩ | ⟨rfl,h62⟩ | hA:y = 91 ∨ y = 93 ∨ (y = 60 ∧ y2 = 60) ∨ (y = 62 ∧ y2 = 62) ∨ y = 47 ∨ y = 40 ∨ (y = 60 ∧ y2 ≠ 60) ∨ (y = 62 ∧ y2 ≠ 62) ∨ (y ≠ 91 ∧ y ≠ 93 ∧ y ≠ 60 ∧ y ≠ 62 ∧ y ≠ 47 ∧ y ≠ 40):=by omega
    ·have hT:tokZ zs p = ⟨0,5,0,[],p + 1⟩:=by rw [tokZ,hy,if_neg (by decide),if_neg (by decide),if_neg (by decide),if_pos rfl]
     rw [hT]
     clear hT hy hy2 hbd hneg hle hnm hrg
     go_enter Tryz.func103,Tryz.ntmps103
     go_wp2_with (first
      | (go_at_call 57;(with_reducible refine (HP0.out _ _ _ _ _ _ HT.out).mono ?_);(rintro r wa ⟨rfl,hta,hsa⟩);(try dsimp only);have HT:=lH hta;have HSA:=lH (Nat.le_trans HSA.out hsa);have c1:=hta.ld.c1;have cf:=hta.ld.fr 1;have kb0:=hta.bx.c0;have kb2:=hta.bx.c2;have kb3:=hta.bx.c3;have kbf:=hta.bx.fr;clear hta hsa)
      | (go_at_call 57;(with_reducible refine (HP1.out _ _ _ _ _ _ HT.out).mono ?_);(rintro r wa ⟨rfl,hta,hsa⟩);(try dsimp only);have HT:=lH hta;have HSA:=lH (Nat.le_trans HSA.out hsa);have c1:=hta.ld.c1;have cf:=hta.ld.fr 1;have kb0:=hta.bx.c0;have kb2:=hta.bx.c2;have kb3:=hta.bx.c3;have kbf:=hta.bx.fr;clear hta hsa)
      | (go_at_call 56;refine (HRG.out _).mono ?_;(rintro r w7 ⟨rfl,rfl⟩);(try dsimp only)))
     go_ret
     exact RkP.plain ((HT.out.set0 5).setP (p + 1) _ HQ1.out) rfl rfl
    ·have hT:tokZ zs p = ⟨0,6,0,[],p + 1⟩:=by rw [tokZ,hy,if_neg (by decide),if_neg (by decide),if_neg (by decide),if_neg (by decide),if_pos rfl]
     rw [hT]
     clear hT hy hy2 hbd hneg hle hnm hrg
     go_enter Tryz.func103,Tryz.ntmps103
     go_wp2_with (first
      | (go_at_call 57;(with_reducible refine (HP0.out _ _ _ _ _ _ HT.out).mono ?_);(rintro r wa ⟨rfl,hta,hsa⟩);(try dsimp only);have HT:=lH hta;have HSA:=lH (Nat.le_trans HSA.out hsa);have c1:=hta.ld.c1;have cf:=hta.ld.fr 1;have kb0:=hta.bx.c0;have kb2:=hta.bx.c2;have kb3:=hta.bx.c3;have kbf:=hta.bx.fr;clear hta hsa)
      | (go_at_call 57;(with_reducible refine (HP1.out _ _ _ _ _ _ HT.out).mono ?_);(rintro r wa ⟨rfl,hta,hsa⟩);(try dsimp only);have HT:=lH hta;have HSA:=lH (Nat.le_trans HSA.out hsa);have c1:=hta.ld.c1;have cf:=hta.ld.fr 1;have kb0:=hta.bx.c0;have kb2:=hta.bx.c2;have kb3:=hta.bx.c3;have kbf:=hta.bx.fr;clear hta hsa)
      | (go_at_call 56;refine (HRG.out _).mono ?_;(rintro r w7 ⟨rfl,rfl⟩);(try dsimp only)))
     go_ret
     exact RkP.plain ((HT.out.set0 6).setP (p + 1) _ HQ1.out) rfl rfl
    ·have hT:tokZ zs p = ⟨0,7,0,[],p + 2⟩:=by rw [tokZ,hy,hy2,if_neg (by decide),if_neg (by decide),if_neg (by decide),if_neg (by decide),if_neg (by decide),if_pos ⟨rfl,h62⟩]
     rw [hT]
     clear hT hy hy2 hbd hneg hle hnm hrg
     subst h62
     go_enter Tryz.func103,Tryz.ntmps103
     go_wp2_with (first
      | (go_at_call 57;(with_reducible refine (HP0.out _ _ _ _ _ _ HT.out).mono ?_);(rintro r wa ⟨rfl,hta,hsa⟩);(try dsimp only);have HT:=lH hta;have HSA:=lH (Nat.le_trans HSA.out hsa);have c1:=hta.ld.c1;have cf:=hta.ld.fr 1;have kb0:=hta.bx.c0;have kb2:=hta.bx.c2;have kb3:=hta.bx.c3;have kbf:=hta.bx.fr;clear hta hsa)
      | (go_at_call 57;(with_reducible refine (HP1.out _ _ _ _ _ _ HT.out).mono ?_);(rintro r wa ⟨rfl,hta,hsa⟩);(try dsimp only);have HT:=lH hta;have HSA:=lH (Nat.le_trans HSA.out hsa);have c1:=hta.ld.c1;have cf:=hta.ld.fr 1;have kb0:=hta.bx.c0;have kb2:=hta.bx.c2;have kb3:=hta.bx.c3;have kbf:=hta.bx.fr;clear hta hsa)
      | (go_at_call 56;refine (HRG.out _).mono ?_;(rintro r w7 ⟨rfl,rfl⟩);(try dsimp only)))
     go_ret
     exact RkP.plain ((HT.out.set0 7).setP (p + 2) _ HQ2.out) rfl rfl
    ·have hT:tokZ zs p = ⟨0,8,0,[],p + 2⟩:=by rw [tokZ,hy,hy2,if_neg (by decide),if_neg (by decide),if_neg (by decide),if_neg (by decide),if_neg (by decide),if_neg (by omega),if_pos ⟨rfl,h62⟩]
     rw [hT]
     clear hT hy hy2 hbd hneg hle hnm hrg
     subst h62
     go_enter Tryz.func103,Tryz.ntmps103
     go_wp2_with (first
      | (go_at_call 57;(with_reducible refine (HP0.out _ _ _ _ _ _ HT.out).mono ?_);(rintro r wa ⟨rfl,hta,hsa⟩);(try dsimp only);have HT:=lH hta;have HSA:=lH (Nat.le_trans HSA.out hsa);have c1:=hta.ld.c1;have cf:=hta.ld.fr 1;have kb0:=hta.bx.c0;have kb2:=hta.bx.c2;have kb3:=hta.bx.c3;have kbf:=hta.bx.fr;clear hta hsa)
      | (go_at_call 57;(with_reducible refine (HP1.out _ _ _ _ _ _ HT.out).mono ?_);(rintro r wa ⟨rfl,hta,hsa⟩);(try dsimp only);have HT:=lH hta;have HSA:=lH (Nat.le_trans HSA.out hsa);have c1:=hta.ld.c1;have cf:=hta.ld.fr 1;have kb0:=hta.bx.c0;have kb2:=hta.bx.c2;have kb3:=hta.bx.c3;have kbf:=hta.bx.fr;clear hta hsa)
      | (go_at_call 56;refine (HRG.out _).mono ?_;(rintro r w7 ⟨rfl,rfl⟩);(try dsimp only)))
     go_ret
     exact RkP.plain ((HT.out.set0 8).setP (p + 2) _ HQ2.out) rfl rfl
    ·have hT:tokZ zs p = ⟨(nameF zs (zs.length + 1) (p + 1) []).1,4,0,(nameF zs (zs.length + 1) (p + 1) []).2.1,(nameF zs (zs.length + 1) (p + 1) []).2.2⟩:=by rw [tokZ,hy,if_neg (by decide),if_neg (by decide),if_neg (by decide),if_neg (by decide),if_neg (by decide),if_neg (fun e=>absurd e.1 (by decide)),if_neg (fun e=>absurd e.1 (by decide)),if_pos rfl]
     rw [hT]
     clear hT hy hy2 hbd hneg hle hnm hrg
     go_enter Tryz.func103,Tryz.ntmps103
     go_upto_region 21 with (first
      | (go_at_call 57;(with_reducible refine (HP0.out _ _ _ _ _ _ HT.out).mono ?_);(rintro r wa ⟨rfl,hta,hsa⟩);(try dsimp only);have HT:=lH hta;have HSA:=lH (Nat.le_trans HSA.out hsa);have c1:=hta.ld.c1;have cf:=hta.ld.fr 1;have kb0:=hta.bx.c0;have kb2:=hta.bx.c2;have kb3:=hta.bx.c3;have kbf:=hta.bx.fr;clear hta hsa)
      | (go_at_call 57;(with_reducible refine (HP1.out _ _ _ _ _ _ HT.out).mono ?_);(rintro r wa ⟨rfl,hta,hsa⟩);(try dsimp only);have HT:=lH hta;have HSA:=lH (Nat.le_trans HSA.out hsa);have c1:=hta.ld.c1;have cf:=hta.ld.fr 1;have kb0:=hta.bx.c0;have kb2:=hta.bx.c2;have kb3:=hta.bx.c3;have kbf:=hta.bx.fr;clear hta hsa)
      | (go_at_call 56;refine (HRG.out _).mono ?_;(rintro r w7 ⟨rfl,rfl⟩);(try dsimp only)))
     have ht:=(HT.out.setP (p + 1) _ HQ1.out).set0 4
     obtain ⟨wb,hwb⟩:∃ wb,(wa.setCell ⟨m,1,none⟩ (.int .i64 ((p:Int) + 1))).setCell ⟨b,0,none⟩ (.int .i64 4) = wb:=⟨_,rfl⟩
     have hsz:wb.heap.size = wa.heap.size:=by rw [← hwb];simp [World.setCell]
     rw [hwb] at ht
     rw [hwb]
     have HT:=lH ht
     have HWB:=lH (show W.heap.size ≤ wb.heap.size by rw [hsz];exact HSA.out)
     have kb3:=ht.bx.c3
     have kbf:=ht.bx.fr
     clear ht hwb hsz
     go_wp2_with (first
      | (go_at_call 118;refine (HNM.out _ (p + 1) HP1N.out HT.out.ld HT.out.ol).mono ?_;(rintro r w9 ⟨A9,m9,c9,q9,rfl,hl9,ho9,hr9⟩);have HL9:=lH hl9;have HO9:=lH ho9;have HR9:=lH hr9;have HT9:=lH (HT.out.moved hl9 ho9);have kb3:=HT9.out.bx.c3;have kbf:=HT9.out.bx.fr;clear hl9 ho9 hr9))
     go_ret
     exact RkP.row HT.out HWB.out HBW.out HL9.out HO9.out HR9.out rfl
    ·have hT:tokZ zs p = ⟨(textF zs (zs.length + 1) (p + 1) 1 []).1,3,0,(textF zs (zs.length + 1) (p + 1) 1 []).2.1,(textF zs (zs.length + 1) (p + 1) 1 []).2.2⟩:=by rw [tokZ,hy,if_neg (by decide),if_neg (by decide),if_neg (by decide),if_neg (by decide),if_neg (by decide),if_neg (fun e=>absurd e.1 (by decide)),if_neg (fun e=>absurd e.1 (by decide)),if_neg (by decide),if_pos rfl]
     rw [hT]
     clear hT hy hy2 hbd hneg hle hnm hrg
     go_enter Tryz.func103,Tryz.ntmps103
     go_upto_region 25 with (first
      | (go_at_call 57;(with_reducible refine (HP0.out _ _ _ _ _ _ HT.out).mono ?_);(rintro r wa ⟨rfl,hta,hsa⟩);(try dsimp only);have HT:=lH hta;have HSA:=lH (Nat.le_trans HSA.out hsa);have c1:=hta.ld.c1;have cf:=hta.ld.fr 1;have kb0:=hta.bx.c0;have kb2:=hta.bx.c2;have kb3:=hta.bx.c3;have kbf:=hta.bx.fr;clear hta hsa)
      | (go_at_call 57;(with_reducible refine (HP1.out _ _ _ _ _ _ HT.out).mono ?_);(rintro r wa ⟨rfl,hta,hsa⟩);(try dsimp only);have HT:=lH hta;have HSA:=lH (Nat.le_trans HSA.out hsa);have c1:=hta.ld.c1;have cf:=hta.ld.fr 1;have kb0:=hta.bx.c0;have kb2:=hta.bx.c2;have kb3:=hta.bx.c3;have kbf:=hta.bx.fr;clear hta hsa)
      | (go_at_call 56;refine (HRG.out _).mono ?_;(rintro r w7 ⟨rfl,rfl⟩);(try dsimp only)))
     have ht:=(HT.out.setP (p + 1) _ HQ1.out).set0 3
     obtain ⟨wb,hwb⟩:∃ wb,(wa.setCell ⟨m,1,none⟩ (.int .i64 ((p:Int) + 1))).setCell ⟨b,0,none⟩ (.int .i64 3) = wb:=⟨_,rfl⟩
     have hsz:wb.heap.size = wa.heap.size:=by rw [← hwb];simp [World.setCell]
     rw [hwb] at ht
     rw [hwb]
     have HT:=lH ht
     have HWB:=lH (show W.heap.size ≤ wb.heap.size by rw [hsz];exact HSA.out)
     have kb3:=ht.bx.c3
     have kbf:=ht.bx.fr
     clear ht hwb hsz
     go_wp2_with (first
      | (go_at_call 119;refine (HTX.out _ (p + 1) HP1N.out HT.out.ld HT.out.ol).mono ?_;(rintro r w9 ⟨A9,m9,c9,q9,rfl,hl9,ho9,hr9⟩);have HL9:=lH hl9;have HO9:=lH ho9;have HR9:=lH hr9;have HT9:=lH (HT.out.moved hl9 ho9);have kb3:=HT9.out.bx.c3;have kbf:=HT9.out.bx.fr;clear hl9 ho9 hr9))
     go_ret
     exact RkP.row HT.out HWB.out HBW.out HL9.out HO9.out HR9.out rfl
    ·have hT:tokZ zs p = ⟨(hexZ zs (p + 1)).1,3,0,(hexZ zs (p + 1)).2.1,(hexZ zs (p + 1)).2.2⟩:=by rw [tokZ,hy,hy2,if_neg (by decide),if_neg (by decide),if_neg (by decide),if_neg (by decide),if_neg (by decide),if_neg (fun e=>h62 e.2),if_neg (fun e=>absurd e.1 (by decide)),if_neg (by decide),if_neg (by decide),if_pos rfl]
     rw [hT]
     have y260:(y2 == 60) = false:=beq_eq_false_iff_ne.2 h62
     clear h62
     clear hT hy hy2 hbd hneg hle hnm hrg
     go_enter Tryz.func103,Tryz.ntmps103
     go_upto_region 29 with (first
      | (go_at_call 57;(with_reducible refine (HP0.out _ _ _ _ _ _ HT.out).mono ?_);(rintro r wa ⟨rfl,hta,hsa⟩);(try dsimp only);have HT:=lH hta;have HSA:=lH (Nat.le_trans HSA.out hsa);have c1:=hta.ld.c1;have cf:=hta.ld.fr 1;have kb0:=hta.bx.c0;have kb2:=hta.bx.c2;have kb3:=hta.bx.c3;have kbf:=hta.bx.fr;clear hta hsa)
      | (go_at_call 57;(with_reducible refine (HP1.out _ _ _ _ _ _ HT.out).mono ?_);(rintro r wa ⟨rfl,hta,hsa⟩);(try dsimp only);have HT:=lH hta;have HSA:=lH (Nat.le_trans HSA.out hsa);have c1:=hta.ld.c1;have cf:=hta.ld.fr 1;have kb0:=hta.bx.c0;have kb2:=hta.bx.c2;have kb3:=hta.bx.c3;have kbf:=hta.bx.fr;clear hta hsa)
      | (go_at_call 56;refine (HRG.out _).mono ?_;(rintro r w7 ⟨rfl,rfl⟩);(try dsimp only)))
     have ht:=(HT.out.setP (p + 1) _ HQ1.out).set0 3
     obtain ⟨wb,hwb⟩:∃ wb,(wa.setCell ⟨m,1,none⟩ (.int .i64 ((p:Int) + 1))).setCell ⟨b,0,none⟩ (.int .i64 3) = wb:=⟨_,rfl⟩
     have hsz:wb.heap.size = wa.heap.size:=by rw [← hwb];simp [World.setCell]
     rw [hwb] at ht
     rw [hwb]
     have HT:=lH ht
     have HWB:=lH (show W.heap.size ≤ wb.heap.size by rw [hsz];exact HSA.out)
     have kb3:=ht.bx.c3
     have kbf:=ht.bx.fr
     clear ht hwb hsz
     go_wp2_with (first
      | (go_at_call 120;refine (HHX.out _ (p + 1) HP1N.out HT.out.ld HT.out.ol).mono ?_;(rintro r w9 ⟨A9,m9,c9,q9,rfl,hl9,ho9,hr9⟩);have HL9:=lH hl9;have HO9:=lH ho9;have HR9:=lH hr9;have HT9:=lH (HT.out.moved hl9 ho9);have kb3:=HT9.out.bx.c3;have kbf:=HT9.out.bx.fr;clear hl9 ho9 hr9))
     go_ret
     exact RkP.row HT.out HWB.out HBW.out HL9.out HO9.out HR9.out rfl
    ·have hT:tokZ zs p = ⟨4,0,0,[],p⟩:=by rw [tokZ,hy,hy2,if_neg (by decide),if_neg (by decide),if_neg (by decide),if_neg (by decide),if_neg (by decide),if_neg (fun e=>absurd e.1 (by decide)),if_neg (fun e=>h62 e.2),if_neg (by decide),if_neg (by decide),if_neg (by decide)]
     rw [hT]
     have y262:(y2 == 62) = false:=beq_eq_false_iff_ne.2 h62
     clear hT hy hy2 hbd hneg hle hnm hrg h62
     go_enter Tryz.func103,Tryz.ntmps103
     go_wp2_with (first
      | (go_at_call 57;(with_reducible refine (HP0.out _ _ _ _ _ _ HT.out).mono ?_);(rintro r wa ⟨rfl,hta,hsa⟩);(try dsimp only);have HT:=lH hta;have HSA:=lH (Nat.le_trans HSA.out hsa);have c1:=hta.ld.c1;have cf:=hta.ld.fr 1;have kb0:=hta.bx.c0;have kb2:=hta.bx.c2;have kb3:=hta.bx.c3;have kbf:=hta.bx.fr;clear hta hsa)
      | (go_at_call 57;(with_reducible refine (HP1.out _ _ _ _ _ _ HT.out).mono ?_);(rintro r wa ⟨rfl,hta,hsa⟩);(try dsimp only);have HT:=lH hta;have HSA:=lH (Nat.le_trans HSA.out hsa);have c1:=hta.ld.c1;have cf:=hta.ld.fr 1;have kb0:=hta.bx.c0;have kb2:=hta.bx.c2;have kb3:=hta.bx.c3;have kbf:=hta.bx.fr;clear hta hsa)
      | (go_at_call 56;refine (HRG.out _).mono ?_;(rintro r w7 ⟨rfl,rfl⟩);(try dsimp only)))
     go_ret
     exact RkP.bad HT.out rfl (by decide)
    ·obtain ⟨a1,a2,a3,a4,a5,a6⟩:=hA
     obtain ⟨n1,n2,n3,n4⟩:=nm_no y hnm
     have hT:tokZ zs p = ⟨4,0,0,[],p⟩:=by rw [tokZ,hy,hy2,if_neg hneg,if_neg (by rw [hnm];decide),if_neg (by rw [hrg];decide),if_neg a1,if_neg a2,if_neg (fun e=>a3 e.1),if_neg (fun e=>a4 e.1),if_neg a5,if_neg a6,if_neg a3]
     rw [hT]
     have b1:(y == 91) = false:=beq_eq_false_iff_ne.2 a1
     have b2:(y == 93) = false:=beq_eq_false_iff_ne.2 a2
     have b3:(y == 60) = false:=beq_eq_false_iff_ne.2 a3
     have b4:(y == 62) = false:=beq_eq_false_iff_ne.2 a4
     have b5:(y == 47) = false:=beq_eq_false_iff_ne.2 a5
     have b6:(y == 40) = false:=beq_eq_false_iff_ne.2 a6
     clear hT hy hy2 hbd hneg hle hnm hrg a1 a2 a3 a4 a5 a6
     rcases n4 with n4 | n4
     ·have n5:decide (48 ≤ y) = false:=decide_eq_false (by omega)
      go_enter Tryz.func103,Tryz.ntmps103
      go_wp2_with (first
       | (go_at_call 57;(with_reducible refine (HP0.out _ _ _ _ _ _ HT.out).mono ?_);(rintro r wa ⟨rfl,hta,hsa⟩);(try dsimp only);have HT:=lH hta;have HSA:=lH (Nat.le_trans HSA.out hsa);have c1:=hta.ld.c1;have cf:=hta.ld.fr 1;have kb0:=hta.bx.c0;have kb2:=hta.bx.c2;have kb3:=hta.bx.c3;have kbf:=hta.bx.fr;clear hta hsa)
       | (go_at_call 57;(with_reducible refine (HP1.out _ _ _ _ _ _ HT.out).mono ?_);(rintro r wa ⟨rfl,hta,hsa⟩);(try dsimp only);have HT:=lH hta;have HSA:=lH (Nat.le_trans HSA.out hsa);have c1:=hta.ld.c1;have cf:=hta.ld.fr 1;have kb0:=hta.bx.c0;have kb2:=hta.bx.c2;have kb3:=hta.bx.c3;have kbf:=hta.bx.fr;clear hta hsa)
       | (go_at_call 56;refine (HRG.out _).mono ?_;(rintro r w7 ⟨rfl,rfl⟩);(try dsimp only)))
      go_ret
      exact RkP.bad HT.out rfl (by decide)
     ·have n5:decide (y ≤ 57) = false:=decide_eq_false (by omega)
      go_enter Tryz.func103,Tryz.ntmps103
      go_wp2_with (first
       | (go_at_call 57;(with_reducible refine (HP0.out _ _ _ _ _ _ HT.out).mono ?_);(rintro r wa ⟨rfl,hta,hsa⟩);(try dsimp only);have HT:=lH hta;have HSA:=lH (Nat.le_trans HSA.out hsa);have c1:=hta.ld.c1;have cf:=hta.ld.fr 1;have kb0:=hta.bx.c0;have kb2:=hta.bx.c2;have kb3:=hta.bx.c3;have kbf:=hta.bx.fr;clear hta hsa)
       | (go_at_call 57;(with_reducible refine (HP1.out _ _ _ _ _ _ HT.out).mono ?_);(rintro r wa ⟨rfl,hta,hsa⟩);(try dsimp only);have HT:=lH hta;have HSA:=lH (Nat.le_trans HSA.out hsa);have c1:=hta.ld.c1;have cf:=hta.ld.fr 1;have kb0:=hta.bx.c0;have kb2:=hta.bx.c2;have kb3:=hta.bx.c3;have kbf:=hta.bx.fr;clear hta hsa)
       | (go_at_call 56;refine (HRG.out _).mono ?_;(rintro r w7 ⟨rfl,rfl⟩);(try dsimp only)))
      go_ret
      exact RkP.bad HT.out rfl (by decide)
   ·rw [hrg] at HRG
    obtain ⟨n1,n2,n3,n4⟩:=nm_no y hnm
    have hd:delB y = false:=by
     unfold regB at hrg
     simp at hrg
     exact hrg.1
    obtain ⟨d1,d2,d3,d4,d5,d6,d7,d8,d9,d10⟩:=del_nor y hd
    have hT:tokZ zs p = if 127 < rowZ regB (zs.drop p) then ⟨3,0,0,[],p⟩ else ⟨0,9,0,(zs.drop p).take (rowZ regB (zs.drop p)),p + rowZ regB (zs.drop p)⟩:=by rw [tokZ,hy,if_neg hneg,if_neg (by rw [hnm];decide),if_pos hrg]
    rw [hT]
    obtain ⟨K,hK⟩:∃ K,rowZ regB (zs.drop p) = K:=⟨_,rfl⟩
    rw [hK] at HRN ⊢
    clear hT hy hy2 hbd hneg hle hnm hrg hd hK
    by_cases h127:127 < K
    ·rw [if_pos h127]
     have hbig:decide ((K:Int) > 127) = true:=decide_eq_true (by omega)
     have hbig2:decide (127 < (K:Int)) = true:=decide_eq_true (by omega)
     have hbig3:decide (127 < K) = true:=decide_eq_true (by omega)
     clear h127
     rcases n4 with n4 | n4
     ·have n5:decide (48 ≤ y) = false:=decide_eq_false (by omega)
      go_enter Tryz.func103,Tryz.ntmps103
      go_upto_region 34 with (first
       | (go_at_call 57;(with_reducible refine (HP0.out _ _ _ _ _ _ HT.out).mono ?_);(rintro r wa ⟨rfl,hta,hsa⟩);(try dsimp only);have HT:=lH hta;have HSA:=lH (Nat.le_trans HSA.out hsa);have c1:=hta.ld.c1;have cf:=hta.ld.fr 1;have kb0:=hta.bx.c0;have kb2:=hta.bx.c2;have kb3:=hta.bx.c3;have kbf:=hta.bx.fr;clear hta hsa)
       | (go_at_call 57;(with_reducible refine (HP1.out _ _ _ _ _ _ HT.out).mono ?_);(rintro r wa ⟨rfl,hta,hsa⟩);(try dsimp only);have HT:=lH hta;have HSA:=lH (Nat.le_trans HSA.out hsa);have c1:=hta.ld.c1;have cf:=hta.ld.fr 1;have kb0:=hta.bx.c0;have kb2:=hta.bx.c2;have kb3:=hta.bx.c3;have kbf:=hta.bx.fr;clear hta hsa)
       | (go_at_call 56;refine (HRG.out _).mono ?_;(rintro r w7 ⟨rfl,rfl⟩);(try dsimp only)))
      have ht:=HT.out.set0 9
      obtain ⟨wb,hwb⟩:∃ wb,wa.setCell ⟨b,0,none⟩ (.int .i64 9) = wb:=⟨_,rfl⟩
      have hsz:wb.heap.size = wa.heap.size:=by rw [← hwb];simp [World.setCell]
      rw [hwb] at ht
      rw [hwb]
      have HT:=lH ht
      have HWB:=lH (show W.heap.size ≤ wb.heap.size by rw [hsz];exact HSA.out)
      have kb3:=ht.bx.c3
      have kbf:=ht.bx.fr
      clear ht hwb hsz
      go_upto_region 35 with (first
       | (go_at_call 122;refine (HRN.out _ HT.out.ld HT.out.ol).mono ?_;(rintro r w9 ⟨v9,rfl,hm9,hl9,ho9⟩);obtain ⟨A9,c9,rfl,hy9⟩:=hm9.byt;have HL9:=lH hl9;have HO9:=lH ho9;have HM9:=lH hm9;have HT9:=lH (HT.out.moved hl9 ho9);have kb3:=HT9.out.bx.c3;have kbf:=HT9.out.bx.fr;clear hl9 ho9 hm9 hy9))
      have kb3:=(HT9.out.set3 A9 K c9).bx.c3
      go_wp2_with fail
      go_ret
      exact RkP.bad ((HT9.out).set3 _ _ _) rfl (by decide)
     ·have n5:decide (y ≤ 57) = false:=decide_eq_false (by omega)
      go_enter Tryz.func103,Tryz.ntmps103
      go_upto_region 34 with (first
       | (go_at_call 57;(with_reducible refine (HP0.out _ _ _ _ _ _ HT.out).mono ?_);(rintro r wa ⟨rfl,hta,hsa⟩);(try dsimp only);have HT:=lH hta;have HSA:=lH (Nat.le_trans HSA.out hsa);have c1:=hta.ld.c1;have cf:=hta.ld.fr 1;have kb0:=hta.bx.c0;have kb2:=hta.bx.c2;have kb3:=hta.bx.c3;have kbf:=hta.bx.fr;clear hta hsa)
       | (go_at_call 57;(with_reducible refine (HP1.out _ _ _ _ _ _ HT.out).mono ?_);(rintro r wa ⟨rfl,hta,hsa⟩);(try dsimp only);have HT:=lH hta;have HSA:=lH (Nat.le_trans HSA.out hsa);have c1:=hta.ld.c1;have cf:=hta.ld.fr 1;have kb0:=hta.bx.c0;have kb2:=hta.bx.c2;have kb3:=hta.bx.c3;have kbf:=hta.bx.fr;clear hta hsa)
       | (go_at_call 56;refine (HRG.out _).mono ?_;(rintro r w7 ⟨rfl,rfl⟩);(try dsimp only)))
      have ht:=HT.out.set0 9
      obtain ⟨wb,hwb⟩:∃ wb,wa.setCell ⟨b,0,none⟩ (.int .i64 9) = wb:=⟨_,rfl⟩
      have hsz:wb.heap.size = wa.heap.size:=by rw [← hwb];simp [World.setCell]
      rw [hwb] at ht
      rw [hwb]
      have HT:=lH ht
      have HWB:=lH (show W.heap.size ≤ wb.heap.size by rw [hsz];exact HSA.out)
      have kb3:=ht.bx.c3
      have kbf:=ht.bx.fr
      clear ht hwb hsz
      go_upto_region 35 with (first
       | (go_at_call 122;refine (HRN.out _ HT.out.ld HT.out.ol).mono ?_;(rintro r w9 ⟨v9,rfl,hm9,hl9,ho9⟩);obtain ⟨A9,c9,rfl,hy9⟩:=hm9.byt;have HL9:=lH hl9;have HO9:=lH ho9;have HM9:=lH hm9;have HT9:=lH (HT.out.moved hl9 ho9);have kb3:=HT9.out.bx.c3;have kbf:=HT9.out.bx.fr;clear hl9 ho9 hm9 hy9))
      have kb3:=(HT9.out.set3 A9 K c9).bx.c3
      go_wp2_with fail
      go_ret
      exact RkP.bad ((HT9.out).set3 _ _ _) rfl (by decide)
    ·rw [if_neg h127]
     have hbig:decide ((K:Int) > 127) = false:=decide_eq_false (by omega)
     have hbig2:decide (127 < (K:Int)) = false:=decide_eq_false (by omega)
     have hbig3:decide (127 < K) = false:=decide_eq_false (by omega)
     clear h127
     rcases n4 with n4 | n4
     ·have n5:decide (48 ≤ y) = false:=decide_eq_false (by omega)
      go_enter Tryz.func103,Tryz.ntmps103
      go_upto_region 34 with (first
       | (go_at_call 57;(with_reducible refine (HP0.out _ _ _ _ _ _ HT.out).mono ?_);(rintro r wa ⟨rfl,hta,hsa⟩);(try dsimp only);have HT:=lH hta;have HSA:=lH (Nat.le_trans HSA.out hsa);have c1:=hta.ld.c1;have cf:=hta.ld.fr 1;have kb0:=hta.bx.c0;have kb2:=hta.bx.c2;have kb3:=hta.bx.c3;have kbf:=hta.bx.fr;clear hta hsa)
       | (go_at_call 57;(with_reducible refine (HP1.out _ _ _ _ _ _ HT.out).mono ?_);(rintro r wa ⟨rfl,hta,hsa⟩);(try dsimp only);have HT:=lH hta;have HSA:=lH (Nat.le_trans HSA.out hsa);have c1:=hta.ld.c1;have cf:=hta.ld.fr 1;have kb0:=hta.bx.c0;have kb2:=hta.bx.c2;have kb3:=hta.bx.c3;have kbf:=hta.bx.fr;clear hta hsa)
       | (go_at_call 56;refine (HRG.out _).mono ?_;(rintro r w7 ⟨rfl,rfl⟩);(try dsimp only)))
      have ht:=HT.out.set0 9
      obtain ⟨wb,hwb⟩:∃ wb,wa.setCell ⟨b,0,none⟩ (.int .i64 9) = wb:=⟨_,rfl⟩
      have hsz:wb.heap.size = wa.heap.size:=by rw [← hwb];simp [World.setCell]
      rw [hwb] at ht
      rw [hwb]
      have HT:=lH ht
      have HWB:=lH (show W.heap.size ≤ wb.heap.size by rw [hsz];exact HSA.out)
      have kb3:=ht.bx.c3
      have kbf:=ht.bx.fr
      clear ht hwb hsz
      go_upto_region 35 with (first
       | (go_at_call 122;refine (HRN.out _ HT.out.ld HT.out.ol).mono ?_;(rintro r w9 ⟨v9,rfl,hm9,hl9,ho9⟩);obtain ⟨A9,c9,rfl,hy9⟩:=hm9.byt;have HL9:=lH hl9;have HO9:=lH ho9;have HM9:=lH hm9;have HT9:=lH (HT.out.moved hl9 ho9);have kb3:=HT9.out.bx.c3;have kbf:=HT9.out.bx.fr;clear hl9 ho9 hm9 hy9))
      have kb3:=(HT9.out.set3 A9 K c9).bx.c3
      go_wp2_with fail
      go_ret
      exact RkP.row (R:=(0,(zs.drop p).take K,p + K)) HT.out HWB.out HBW.out HL9.out HO9.out (fun _=>⟨rfl,HM9.out⟩) rfl
     ·have n5:decide (y ≤ 57) = false:=decide_eq_false (by omega)
      go_enter Tryz.func103,Tryz.ntmps103
      go_upto_region 34 with (first
       | (go_at_call 57;(with_reducible refine (HP0.out _ _ _ _ _ _ HT.out).mono ?_);(rintro r wa ⟨rfl,hta,hsa⟩);(try dsimp only);have HT:=lH hta;have HSA:=lH (Nat.le_trans HSA.out hsa);have c1:=hta.ld.c1;have cf:=hta.ld.fr 1;have kb0:=hta.bx.c0;have kb2:=hta.bx.c2;have kb3:=hta.bx.c3;have kbf:=hta.bx.fr;clear hta hsa)
       | (go_at_call 57;(with_reducible refine (HP1.out _ _ _ _ _ _ HT.out).mono ?_);(rintro r wa ⟨rfl,hta,hsa⟩);(try dsimp only);have HT:=lH hta;have HSA:=lH (Nat.le_trans HSA.out hsa);have c1:=hta.ld.c1;have cf:=hta.ld.fr 1;have kb0:=hta.bx.c0;have kb2:=hta.bx.c2;have kb3:=hta.bx.c3;have kbf:=hta.bx.fr;clear hta hsa)
       | (go_at_call 56;refine (HRG.out _).mono ?_;(rintro r w7 ⟨rfl,rfl⟩);(try dsimp only)))
      have ht:=HT.out.set0 9
      obtain ⟨wb,hwb⟩:∃ wb,wa.setCell ⟨b,0,none⟩ (.int .i64 9) = wb:=⟨_,rfl⟩
      have hsz:wb.heap.size = wa.heap.size:=by rw [← hwb];simp [World.setCell]
      rw [hwb] at ht
      rw [hwb]
      have HT:=lH ht
      have HWB:=lH (show W.heap.size ≤ wb.heap.size by rw [hsz];exact HSA.out)
      have kb3:=ht.bx.c3
      have kbf:=ht.bx.fr
      clear ht hwb hsz
      go_upto_region 35 with (first
       | (go_at_call 122;refine (HRN.out _ HT.out.ld HT.out.ol).mono ?_;(rintro r w9 ⟨v9,rfl,hm9,hl9,ho9⟩);obtain ⟨A9,c9,rfl,hy9⟩:=hm9.byt;have HL9:=lH hl9;have HO9:=lH ho9;have HM9:=lH hm9;have HT9:=lH (HT.out.moved hl9 ho9);have kb3:=HT9.out.bx.c3;have kbf:=HT9.out.bx.fr;clear hl9 ho9 hm9 hy9))
      have kb3:=(HT9.out.set3 A9 K c9).bx.c3
      go_wp2_with fail
      go_ret
      exact RkP.row (R:=(0,(zs.drop p).take K,p + K)) HT.out HWB.out HBW.out HL9.out HO9.out (fun _=>⟨rfl,HM9.out⟩) rfl
  ·have hT:tokZ zs p = ⟨(parseS ((zs.drop p).take (rowZ regB (zs.drop p)))).2.2,if (parseS ((zs.drop p).take (rowZ regB (zs.drop p)))).2.1 = true then 1 else 2,(parseS ((zs.drop p).take (rowZ regB (zs.drop p)))).1,[],p + rowZ regB (zs.drop p)⟩:=by rw [tokZ,hy,if_neg hneg,if_pos hnm]
   rw [hT]
   have HFI:Hid (∀ w' ,TS w w' m T X A n c (p + rowZ regB (zs.drop p)) b (if (parseS ((zs.drop p).take (rowZ regB (zs.drop p)))).2.1 = true then 1 else 2) a (parseS ((zs.drop p).take (rowZ regB (zs.drop p)))).1 none 0 0 → RkP w m T X A n c b a ⟨(parseS ((zs.drop p).take (rowZ regB (zs.drop p)))).2.2,if (parseS ((zs.drop p).take (rowZ regB (zs.drop p)))).2.1 = true then 1 else 2,(parseS ((zs.drop p).take (rowZ regB (zs.drop p)))).1,[],p + rowZ regB (zs.drop p)⟩ W (.returned (.int .i64 (parseS ((zs.drop p).take (rowZ regB (zs.drop p)))).2.2)) w'):=lH (fun w' x=>RkP.plain x rfl rfl)
   obtain ⟨Z,hZ⟩:∃ Z,parseS ((zs.drop p).take (rowZ regB (zs.drop p))) = Z:=⟨_,rfl⟩
   rw [hZ] at HNB HFI ⊢
   obtain ⟨tk,htk⟩:∃ tk:Tk,(⟨Z.2.2,if Z.2.1 = true then 1 else 2,Z.1,[],p + rowZ regB (zs.drop p)⟩:Tk) = tk:=⟨_,rfl⟩
   obtain ⟨kk,hkk⟩:∃ kk:Int,(if Z.2.1 = true then 1 else 2) = kk:=⟨_,rfl⟩
   rw [htk] at HFI ⊢
   rw [hkk] at HFI HNB
   have hcs:=nm_lits y hnm
   clear hT hy hy2 hbd hneg hle hnm hZ htk hkk
   rcases hcs with rfl | rfl | rfl | ⟨g1,g2⟩
   ·go_enter Tryz.func103,Tryz.ntmps103
    go_wp2_with (first
     | (go_at_call 57;(with_reducible refine (HP0.out _ _ _ _ _ _ HT.out).mono ?_);(rintro r wa ⟨rfl,hta,hsa⟩);(try dsimp only);have HT:=lH hta;have HSA:=lH (Nat.le_trans HSA.out hsa);have c1:=hta.ld.c1;have cf:=hta.ld.fr 1;have kb0:=hta.bx.c0;have kb2:=hta.bx.c2;have kb3:=hta.bx.c3;have kbf:=hta.bx.fr;clear hta hsa)
     | (go_at_call 121;refine (HNB.out _ _ _ _ _ _ HT.out).mono ?_;(rintro r w9 ⟨rfl,ht9⟩);have HT9:=lH ht9;clear ht9))
    go_ret
    exact HFI.out _ HT9.out
   ·go_enter Tryz.func103,Tryz.ntmps103
    go_wp2_with (first
     | (go_at_call 57;(with_reducible refine (HP0.out _ _ _ _ _ _ HT.out).mono ?_);(rintro r wa ⟨rfl,hta,hsa⟩);(try dsimp only);have HT:=lH hta;have HSA:=lH (Nat.le_trans HSA.out hsa);have c1:=hta.ld.c1;have cf:=hta.ld.fr 1;have kb0:=hta.bx.c0;have kb2:=hta.bx.c2;have kb3:=hta.bx.c3;have kbf:=hta.bx.fr;clear hta hsa)
     | (go_at_call 121;refine (HNB.out _ _ _ _ _ _ HT.out).mono ?_;(rintro r w9 ⟨rfl,ht9⟩);have HT9:=lH ht9;clear ht9))
    go_ret
    exact HFI.out _ HT9.out
   ·go_enter Tryz.func103,Tryz.ntmps103
    go_wp2_with (first
     | (go_at_call 57;(with_reducible refine (HP0.out _ _ _ _ _ _ HT.out).mono ?_);(rintro r wa ⟨rfl,hta,hsa⟩);(try dsimp only);have HT:=lH hta;have HSA:=lH (Nat.le_trans HSA.out hsa);have c1:=hta.ld.c1;have cf:=hta.ld.fr 1;have kb0:=hta.bx.c0;have kb2:=hta.bx.c2;have kb3:=hta.bx.c3;have kbf:=hta.bx.fr;clear hta hsa)
     | (go_at_call 121;refine (HNB.out _ _ _ _ _ _ HT.out).mono ?_;(rintro r w9 ⟨rfl,ht9⟩);have HT9:=lH ht9;clear ht9))
    go_ret
    exact HFI.out _ HT9.out
   ·go_enter Tryz.func103,Tryz.ntmps103
    go_wp2_with (first
     | (go_at_call 57;(with_reducible refine (HP0.out _ _ _ _ _ _ HT.out).mono ?_);(rintro r wa ⟨rfl,hta,hsa⟩);(try dsimp only);have HT:=lH hta;have HSA:=lH (Nat.le_trans HSA.out hsa);have c1:=hta.ld.c1;have cf:=hta.ld.fr 1;have kb0:=hta.bx.c0;have kb2:=hta.bx.c2;have kb3:=hta.bx.c3;have kbf:=hta.bx.fr;clear hta hsa)
     | (go_at_call 121;refine (HNB.out _ _ _ _ _ _ HT.out).mono ?_;(rintro r w9 ⟨rfl,ht9⟩);have HT9:=lH ht9;clear ht9))
    go_ret
    exact HFI.out _ HT9.out
end
section
open Go.RowKit
theorem dg_in12 (zs:List Int) (p:Nat) (h:0 ≤ dgZ (peekZ zs (p:Int))):p < zs.length:=by
 rcases Nat.lt_or_ge p zs.length with hp | hp
 ·exact hp
 ·rw [peekZ_nat zs p hp] at h;exact absurd h (by decide)
theorem reg_in12 (zs:List Int) (p:Nat) (h:regB (peekZ zs (p:Int)) = true):p < zs.length:=by
 rcases Nat.lt_or_ge p zs.length with hp | hp
 ·exact hp
 ·rw [peekZ_nat zs p hp] at h;exact absurd h (by decide)
theorem oct_in12 (zs:List Int) (p:Nat) (h:octB (peekZ zs (p:Int)) = true):p < zs.length:=by
 rcases Nat.lt_or_ge p zs.length with hp | hp
 ·exact hp
 ·rw [peekZ_nat zs p hp] at h;exact absurd h (by decide)
theorem name_q12 (zs:List Int):∀ (f p:Nat) (o:List Int),p ≤ zs.length → (nameF zs f p o).2.2 ≤ zs.length
 | 0,p,o,h=>h
 | f + 1,p,o,h=>by
  rw [nameF]
  split
  ·exact h
  rename_i hr
  have hp:=reg_in12 zs p (by simpa using hr)
  split
  ·split
   ·exact h
   ·rename_i hd
    have h2:=dg_in12 zs (p + 2) (by omega)
    split
    ·exact h
    ·exact name_q12 zs f (p + 3) _ (by omega)
  ·split
   ·exact h
   ·exact name_q12 zs f (p + 1) _ (by omega)
theorem esc_q12 (zs:List Int) (p:Nat) (h:p < zs.length):(escZ zs p).2 ≤ zs.length:=by
 unfold escZ
 split
 ·exact h
 split
 ·exact h
 split
 ·exact h
 split
 ·exact h
 split
 ·exact h
 split
 ·dsimp only
  split
  ·rename_i h10
   have:=peekZ_lt zs (p + 1) (by omega)
   omega
  ·exact h
 split
 ·exact h
 split
 ·split
  ·rename_i h1
   have h1:=oct_in12 zs (p + 1) h1
   split
   ·rename_i h2
    have h2:=oct_in12 zs (p + 2) h2
    dsimp only;omega
   ·dsimp only;omega
  ·exact h
 ·exact h
theorem pc_q12 (zs:List Int) (p:Nat) (h:p < zs.length):(pcZ zs p).2.1 ≤ zs.length:=by
 unfold pcZ
 split
 ·split
  ·exact h
  ·exact esc_q12 zs (p + 1) (by omega)
 split
 ·dsimp only
  split
  ·rename_i h10
   have:=peekZ_lt zs (p + 1) (by omega)
   omega
  ·exact h
 ·exact h
theorem text_q12 (zs:List Int):∀ (f p:Nat) (k:Int) (o:List Int),p ≤ zs.length → (textF zs f p k o).2.2 ≤ zs.length
 | 0,p,k,o,h=>h
 | f + 1,p,k,o,h=>by
  rw [textF]
  split
  ·exact h
  rename_i hp
  have hq:=pc_q12 zs p (by omega)
  split
  ·exact hq
  split
  ·exact text_q12 zs f _ _ _ hq
  split
  ·exact hq
  ·exact text_q12 zs f _ _ _ hq
theorem row_q12 (K:Int → Bool) (zs:List Int) (p:Nat) (h:p ≤ zs.length):p + rowZ K (zs.drop p) ≤ zs.length:=by
 have:=rowZ_le K (zs.drop p)
 rw [List.length_drop] at this
 omega
theorem tokZ_q (zs:List Int) (p:Nat) (hp:p ≤ zs.length) (h0:(tokZ zs p).e = 0):(tokZ zs p).q ≤ zs.length:=by
 have hr:=row_q12 regB zs p hp
 unfold tokZ at h0 ⊢
 by_cases c0:peekZ zs (p:Int) < 0
 ·rw [if_pos c0];exact hp
 rw [if_neg c0] at h0 ⊢
 have hlt:=peekZ_lt zs p (by omega)
 by_cases c1:nmB (peekZ zs (p:Int)) = true
 ·rw [if_pos c1];exact hr
 rw [if_neg c1] at h0 ⊢
 by_cases c2:regB (peekZ zs (p:Int)) = true
 ·rw [if_pos c2]
  by_cases d:127 < rowZ regB (zs.drop p)
  ·rw [if_pos d];exact hp
  ·rw [if_neg d];exact hr
 rw [if_neg c2] at h0 ⊢
 by_cases c3:peekZ zs (p:Int) = 91
 ·rw [if_pos c3];exact hlt
 rw [if_neg c3] at h0 ⊢
 by_cases c4:peekZ zs (p:Int) = 93
 ·rw [if_pos c4];exact hlt
 rw [if_neg c4] at h0 ⊢
 by_cases c5:peekZ zs (p:Int) = 60 ∧ peekZ zs ((p + 1:Nat):Int) = 60
 ·rw [if_pos c5];exact peekZ_lt zs (p + 1) (by omega)
 rw [if_neg c5] at h0 ⊢
 by_cases c6:peekZ zs (p:Int) = 62 ∧ peekZ zs ((p + 1:Nat):Int) = 62
 ·rw [if_pos c6];exact peekZ_lt zs (p + 1) (by omega)
 rw [if_neg c6] at h0 ⊢
 by_cases c7:peekZ zs (p:Int) = 47
 ·rw [if_pos c7];exact name_q12 zs _ _ _ hlt
 rw [if_neg c7] at h0 ⊢
 by_cases c8:peekZ zs (p:Int) = 40
 ·rw [if_pos c8];exact text_q12 zs _ _ _ _ hlt
 rw [if_neg c8] at h0 ⊢
 by_cases c9:peekZ zs (p:Int) = 60
 ·rw [if_pos c9] at h0 ⊢
  dsimp only at h0 ⊢
  unfold hexZ at h0 ⊢
  dsimp only at h0 ⊢
  have hu:(unhxR 32767 (zs.drop (p + 1)) (-1) []).2 = 0:=by
   by_cases h7:(unhxR 32767 (zs.drop (p + 1)) (-1) []).2 = 7
   ·rw [if_pos h7] at h0;exact absurd h0 (by decide)
   ·rw [if_neg h7] at h0;exact h0
  have:=unhx_row 32767 _ _ _ hu
  rw [List.length_drop] at this
  omega
 rw [if_neg c9] at h0
 exact absurd h0 (by simp)
theorem tokT_q (zs:List Int) (p:Nat) (hp:p ≤ zs.length):(tokT zs p).q ≤ zs.length:=by
 have hb:=(blkP_le zs p hp).2
 unfold tokT
 by_cases h:(tokZ zs (blkP zs p)).e = 0
 ·rw [if_pos h];exact tokZ_q zs _ hb h
 ·rw [if_neg h];exact hb
end
end Go.Proofs.YtpomkhcobpihmaaGreat
