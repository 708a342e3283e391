/- Lemmas. -/
import Derived.Test.YtpomkhcobpihmaaGreatPad2
import Derived.Test.YtpomkhcobpihmaaGreatPad8
import Derived.Test.YtpomkhcobpihmaaGreatPad13
namespace Go.Proofs.YtpomkhcobpihmaaGreat
section
open Go.RowKit
set_option linter.unusedVariables false
set_option maxRecDepth 100000
structure LD (w:World) (m:Nat) (T:TypeId) (X:List Value) (A:Option Addr) (n c p:Nat):Prop where
 blk:w.heap[m]? = some (.cells (.slice A n c :: .int .i64 (p:Int) :: X).toArray T (0,0))
section
variable {w w':World} {m g n c p B:Nat} {T:TypeId} {X:List Value} {A:Option Addr}
theorem LD.lt (h:LD w m T X A n c p):m < w.heap.size:=row_lt w m _ h.blk
theorem LD.c0 (h:LD w m T X A n c p):w.cell? ⟨m,0,none⟩ = some (.slice A n c):=by rw [cell_of_row w m 0 _ T (0,0) h.blk];rfl
theorem LD.c1 (h:LD w m T X A n c p):w.cell? ⟨m,1,none⟩ = some (.int .i64 p):=by rw [cell_of_row w m 1 _ T (0,0) h.blk];rfl
theorem LD.fr (h:LD w m T X A n c p) (i:Nat):w.frozen? ⟨m,i,none⟩ = false:=by
 have:=h.blk
 simp [World.frozen?,this]
theorem LD.drewN (h:LD w m T X A n c p) (k:Nat):LD (w.drewN k) m T X A n c p:=⟨h.blk⟩
theorem LD.keep (h:LD w m T X A n c p) (e:w'.heap[m]? = w.heap[m]?):LD w' m T X A n c p:=⟨e.trans h.blk⟩
theorem LD.below (h:LD w m T X A n c p) (hb:Below B w w') (hg:m < B):LD w' m T X A n c p:=h.keep (hb.block m hg)
theorem LD.setI (h:LD w m T X A n c p) (q:Nat) (z:Int) (hz:z = q):LD (w.setCell ⟨m,1,none⟩ (.int .i64 z)) m T X A n c q:=by
 subst hz
 exact ⟨by have:=heap_set w m 1 (.int .i64 (q:Int)) (.slice A n c :: .int .i64 (p:Int) :: X) T h.blk;exact this⟩
end
structure DS (w wr:World) (m:Nat) (T:TypeId) (X:List Value) (A:Option Addr) (n c q:Nat) (v:Value) (out:List Int):Prop where
 ld:LD wr m T X A n c q
 ol:Only m w wr
 row:Mine wr w.heap.size v out.length out
 lm:m < w.heap.size
section
variable {w wr w':World} {m n c q q':Nat} {T:TypeId} {X:List Value} {A:Option Addr} {v:Value} {out:List Int}
theorem DS.start (h:LD w m T X A n c q):DS w w m T X A n c q (.slice none 0 0) []:=⟨h,Only.refl _ _,Mine.nil _ _,h.lt⟩
theorem DS.drewN (x:DS w wr m T X A n c q v out) (j:Nat):DS w (wr.drewN j) m T X A n c q v out:=⟨x.ld.drewN j,x.ol.drewN j,x.row.drewN j,x.lm⟩
theorem DS.moved (x:DS w wr m T X A n c q v out) (hl:LD w' m T X A n c q') (ho:Only m wr w'):DS w w' m T X A n c q' v out:=⟨hl,x.ol.trans ho,x.row.only ho x.lm,x.lm⟩
theorem DS.setI (x:DS w wr m T X A n c q v out) (q':Nat) (z:Int) (hz:z = q'):DS w (wr.setCell ⟨m,1,none⟩ (.int .i64 z)) m T X A n c q' v out :=
 x.moved (x.ld.setI q' z hz) ((Only.refl m wr).set_ 1 _)
theorem DS.byt (x:DS w wr m T X A n c q v out):∃ A' c',v = .slice A' out.length c' ∧ Byt wr wr.heap.size A' out.length c' out ∧ From w.heap.size A' out.length:=by
 obtain ⟨A',c',e,hy⟩:=x.row.byt
 subst e
 exact ⟨A',c',rfl,hy,x.row.from_⟩
theorem DS.room (x:DS w wr m T X A n c q v out) (z:Int) (hz:0 ≤ z ∧ z < 256) (hm:out.length ≤ 100000000) :
  ∃ v' w',(Builtin.append_ #[23,23] 23 #[v,.slice (some ⟨wr.heap.size,0,none⟩) 1 1]).run Tryz.prog (wr.alloc (.cells #[.int .u8 z] 5)) = .ok v' w' ∧
   DS w w' m T X A n c q v' (out ++ [z]) ∧ ∃ A c,v' = .slice A (out.length + 1) c:=by
 have hsz:=x.ol.size
 have hal:=(Below.refl wr.heap.size wr).alloc (Nat.le_refl _) (.cells #[.int .u8 z] 5)
 obtain ⟨v6,w6,hrun,hmi6,hk6⟩:=(x.row.kept hal).appendX (byt_lit0 wr z hz) 23 (by omega) (Nat.le_trans hsz hal.size)
 obtain ⟨A6,c6,hv6,_⟩:=hmi6.byt
 have hlm:=x.lm
 have hbl:Below w.heap.size wr w6:=(hal.mono hsz).trans (hk6.below (Nat.le_trans hsz hal.size) (x.row.kept hal).owned)
 refine ⟨v6,w6,hrun,⟨x.ld.below hbl x.lm,?_,by rw [List.length_append];exact hmi6,x.lm⟩,A6,c6,hv6⟩
 exact ⟨hbl.os.trans x.ol.os,hbl.tape.trans x.ol.tape,hbl.output.trans x.ol.output,Nat.le_trans hsz hbl.size,fun b hb hne=>(hbl.block b hb).trans (x.ol.block b hb hne)⟩
end
theorem rpeekC (m n c p B:Nat) (T:TypeId) (X:List Value) (A:Option Addr) (zs:List Int) (i:Int) (w:World) (h:LD w m T X A n c p) (hb:Byt w B A n c zs) (hn:n ≤ 1000000) (hp:p ≤ 2000000) (hi:0 ≤ i ∧ i ≤ 1000000) :
  Calls Tryz.prog 57 #[.pointer (some ⟨m,0,none⟩),.int .i64 i] w fun e w'=>e = .returned (.int .i64 (peekZ zs (p + i))) ∧ ∃ k,w' = w.drewN k:=by
 have HP:=lH (fun k=>refPeek_any A n c B zs ((p:Int) + i) (w.drewN k) (hb.drewN k) hn)
 have c0:=h.c0
 have c1:=h.c1
 have e1:IntKind.i64.wrap ((p:Int) + i) = (p:Int) + i:=IntWalk.i64_in _ (by omega)
 obtain ⟨y,hy⟩:∃ y,peekZ zs ((p:Int) + i) = y:=⟨_,rfl⟩
 rw [hy] at HP ⊢
 clear h hb hy
 go_enter Tryz.func57,Tryz.ntmps57
 go_wp2_with fail
 go_quiet ((go_at_call 81;exact quietL (HP.out _)))
 go_wp2
 go_ret
 exact ⟨rfl,_,rfl⟩
theorem rpeek0 (m n c p B:Nat) (T:TypeId) (X:List Value) (A:Option Addr) (zs:List Int) (w:World) (h:LD w m T X A n c p) (hb:Byt w B A n c zs) (hn:n ≤ 1000000) (hp:p ≤ 2000000) :
  Calls Tryz.prog 57 #[.pointer (some ⟨m,0,none⟩),.int .i64 0] w fun e w'=>e = .returned (.int .i64 (peekZ zs (p:Int))) ∧ ∃ k,w' = w.drewN k:=by
 have:=rpeekC m n c p B T X A zs 0 w h hb hn hp (by omega)
 rw [Int.add_zero] at this
 exact this
theorem rpeek1 (m n c p B:Nat) (T:TypeId) (X:List Value) (A:Option Addr) (zs:List Int) (w:World) (h:LD w m T X A n c p) (hb:Byt w B A n c zs) (hn:n ≤ 1000000) (hp:p ≤ 2000000) :
  Calls Tryz.prog 57 #[.pointer (some ⟨m,0,none⟩),.int .i64 1] w fun e w'=>e = .returned (.int .i64 (peekZ zs ((p + 1:Nat):Int))) ∧ ∃ k,w' = w.drewN k:=by
 have:=rpeekC m n c p B T X A zs 1 w h hb hn hp (by omega)
 rw [show (p:Int) + 1 = ((p + 1:Nat):Int) by omega] at this
 exact this
theorem rregC (c:Int) (w:World):Calls Tryz.prog 56 #[.int .i64 c] w fun e w'=>e = .returned (.bool (regB c)) ∧ w = w':=by
 have HWH:=lH (fun W=>rwhite c W)
 by_cases h1:c < 0
 ·have e:regB c = false:=by unfold regB;simp;omega
  rw [e]
  clear e
  go_enter Tryz.func56,Tryz.ntmps56
  go_wp2_with fail
  go_ret
  exact ⟨rfl,rfl⟩
 ·have e1:decide (c < 0) = false:=decide_eq_false h1
  by_cases h2:c > 255
  ·have e:regB c = false:=by unfold regB;simp;omega
   have e3:decide (c > 255) = true:=decide_eq_true h2
   rw [e]
   clear e
   go_enter Tryz.func56,Tryz.ntmps56
   go_wp2_with fail
   go_ret
   exact ⟨rfl,rfl⟩
  ·have e2:decide (c > 255) = false:=decide_eq_false h2
   have e2':decide (255 < c) = false:=decide_eq_false (by omega)
   rcases hw:whB c with _ | _
   ·rw [hw] at HWH
    rcases hd:delB c with _ | _
    ·have e:regB c = true:=by unfold regB;rw [hd,hw];simp;omega
     obtain ⟨d1,d2,d3,d4,d5,d6,d7,d8,d9,d10⟩:=del_nor c hd
     rw [e]
     clear e hd hw
     go_enter Tryz.func56,Tryz.ntmps56
     go_wp2_with (go_at_call 80;refine (HWH.out _).mono ?_;(rintro e w7 ⟨rfl,rfl⟩);dsimp only)
     go_ret
     exact ⟨rfl,rfl⟩
    ·clear h1 h2 e1 e2 e2' hw
     rcases del_or c hd with rfl | rfl | rfl | rfl | rfl | rfl | rfl | rfl | rfl | rfl <;> (clear hd;go_enter Tryz.func56,Tryz.ntmps56;go_wp2_with (go_at_call 80;refine (HWH.out _).mono ?_;(rintro e w7 ⟨rfl,rfl⟩);dsimp only);go_ret;exact ⟨rfl,rfl⟩)
   ·have e:regB c = false:=by unfold regB;rw [hw];simp
    rw [hw] at HWH
    rw [e]
    clear e hw
    go_enter Tryz.func56,Tryz.ntmps56
    go_wp2_with (go_at_call 80;refine (HWH.out _).mono ?_;(rintro e w7 ⟨rfl,rfl⟩);dsimp only)
    go_ret
    exact ⟨rfl,rfl⟩
theorem rpk0 (m n c p B:Nat) (T:TypeId) (X:List Value) (A:Option Addr) (zs:List Int) (w W:World) (h:LD W m T X A n c p) (ho:Only m w W) (hb:Byt w B A n c zs) (hB:B ≤ m) (hm:m ≤ w.heap.size) (hn:n ≤ 1000000) (hp:p ≤ 1500000) :
  Calls Tryz.prog 57 #[.pointer (some ⟨m,0,none⟩),.int .i64 0] W fun e w'=>e = .returned (.int .i64 (peekZ zs (p:Int))) ∧ LD w' m T X A n c p ∧ Only m w w' :=
 (rpeek0 m n c p B T X A zs W h (hb.only ho hB hm) hn (by omega)).mono fun _ _ ⟨h1,k,h2⟩=>⟨h1,by rw [h2];exact h.drewN k,by rw [h2];exact ho.drewN k⟩
theorem rpk1 (m n c p B:Nat) (T:TypeId) (X:List Value) (A:Option Addr) (zs:List Int) (w W:World) (h:LD W m T X A n c p) (ho:Only m w W) (hb:Byt w B A n c zs) (hB:B ≤ m) (hm:m ≤ w.heap.size) (hn:n ≤ 1000000) (hp:p ≤ 1500000) :
  Calls Tryz.prog 57 #[.pointer (some ⟨m,0,none⟩),.int .i64 1] W fun e w'=>e = .returned (.int .i64 (peekZ zs ((p + 1:Nat):Int))) ∧ LD w' m T X A n c p ∧ Only m w w' :=
 (rpeek1 m n c p B T X A zs W h (hb.only ho hB hm) hn (by omega)).mono fun _ _ ⟨h1,k,h2⟩=>⟨h1,by rw [h2];exact h.drewN k,by rw [h2];exact ho.drewN k⟩
def eolZ (zs:List Int) (p:Nat):Bool × Nat :=
 if peekZ zs (p:Int) = 13 then (true,if peekZ zs ((p + 1:Nat):Int) = 10 then p + 2 else p + 1) else if peekZ zs (p:Int) = 10 then (true,p + 1) else (false,p)
set_option maxHeartbeats 2000000 in
theorem reolC (m n c p B:Nat) (T:TypeId) (X:List Value) (A:Option Addr) (zs:List Int) (w:World) (h:LD w m T X A n c p) (hb:Byt w B A n c zs) (hB:B ≤ m) (hn:n ≤ 1000000) (hp:p ≤ 1000001) :
  Calls Tryz.prog 61 #[.pointer (some ⟨m,0,none⟩)] w fun e w'=>e = .returned (.bool (eolZ zs p).1) ∧ LD w' m T X A n c (eolZ zs p).2 ∧ Only m w w':=by
 have HX:=lH h
 have HO:Hid (Only m w w):=lH (Only.refl m w)
 have HP0:=lH (fun W (hW:LD W m T X A n c p) (ho:Only m w W)=>rpk0 m n c p B T X A zs w W hW ho hb hB (Nat.le_of_lt h.lt) hn (by omega))
 have HP1:=lH (fun W (hW:LD W m T X A n c p) (ho:Only m w W)=>rpk1 m n c p B T X A zs w W hW ho hb hB (Nat.le_of_lt h.lt) hn (by omega))
 unfold eolZ
 obtain ⟨y,hy⟩:∃ y,peekZ zs (p:Int) = y:=⟨_,rfl⟩
 obtain ⟨z,hz⟩:∃ z,peekZ zs ((p + 1:Nat):Int) = z:=⟨_,rfl⟩
 rw [hy] at HP0 ⊢
 rw [hz] at HP1 ⊢
 have w1:IntKind.i64.wrap ((p:Int) + 1) = (p:Int) + 1:=IntWalk.i64_in _ (by omega)
 have w2:IntKind.i64.wrap ((p:Int) + 2) = (p:Int) + 2:=IntWalk.i64_in _ (by omega)
 clear h hb hy hz
 by_cases h13:y = 13
 ·subst h13
  rw [if_pos rfl]
  by_cases h10:z = 10
  ·subst h10
   rw [if_pos rfl]
   go_enter Tryz.func61,Tryz.ntmps61
   go_wp2_with (first
    | (go_at_call 57;(with_reducible refine (HP0.out _ HX.out HO.out).mono ?_);(rintro r wa ⟨rfl,hxa,hoa⟩);(try dsimp only);have HX:=lH hxa;have HO:=lH hoa;have c1:=hxa.c1;have cf:=hxa.fr 1;clear hxa hoa)
    | (go_at_call 57;(with_reducible refine (HP1.out _ HX.out HO.out).mono ?_);(rintro r wa ⟨rfl,hxa,hoa⟩);(try dsimp only);have HX:=lH hxa;have HO:=lH hoa;have c1:=hxa.c1;have cf:=hxa.fr 1;clear hxa hoa))
   go_ret
   exact ⟨rfl,HX.out.setI (p + 2) _ (by omega),HO.out.set_ 1 _⟩
  ·rw [if_neg h10]
   have z0:(z == 10) = false:=beq_eq_false_iff_ne.2 h10
   go_enter Tryz.func61,Tryz.ntmps61
   go_wp2_with (first
    | (go_at_call 57;(with_reducible refine (HP0.out _ HX.out HO.out).mono ?_);(rintro r wa ⟨rfl,hxa,hoa⟩);(try dsimp only);have HX:=lH hxa;have HO:=lH hoa;have c1:=hxa.c1;have cf:=hxa.fr 1;clear hxa hoa)
    | (go_at_call 57;(with_reducible refine (HP1.out _ HX.out HO.out).mono ?_);(rintro r wa ⟨rfl,hxa,hoa⟩);(try dsimp only);have HX:=lH hxa;have HO:=lH hoa;have c1:=hxa.c1;have cf:=hxa.fr 1;clear hxa hoa))
   go_ret
   exact ⟨rfl,HX.out.setI (p + 1) _ (by omega),HO.out.set_ 1 _⟩
 ·rw [if_neg h13]
  have y0:(y == 13) = false:=beq_eq_false_iff_ne.2 h13
  by_cases h10:y = 10
  ·subst h10
   rw [if_pos rfl]
   go_enter Tryz.func61,Tryz.ntmps61
   go_wp2_with (first
    | (go_at_call 57;(with_reducible refine (HP0.out _ HX.out HO.out).mono ?_);(rintro r wa ⟨rfl,hxa,hoa⟩);(try dsimp only);have HX:=lH hxa;have HO:=lH hoa;have c1:=hxa.c1;have cf:=hxa.fr 1;clear hxa hoa)
    | (go_at_call 57;(with_reducible refine (HP1.out _ HX.out HO.out).mono ?_);(rintro r wa ⟨rfl,hxa,hoa⟩);(try dsimp only);have HX:=lH hxa;have HO:=lH hoa;have c1:=hxa.c1;have cf:=hxa.fr 1;clear hxa hoa))
   go_ret
   exact ⟨rfl,HX.out.setI (p + 1) _ (by omega),HO.out.set_ 1 _⟩
  ·rw [if_neg h10]
   have y1:(y == 10) = false:=beq_eq_false_iff_ne.2 h10
   go_enter Tryz.func61,Tryz.ntmps61
   go_wp2_with (first
    | (go_at_call 57;(with_reducible refine (HP0.out _ HX.out HO.out).mono ?_);(rintro r wa ⟨rfl,hxa,hoa⟩);(try dsimp only);have HX:=lH hxa;have HO:=lH hoa;have c1:=hxa.c1;have cf:=hxa.fr 1;clear hxa hoa)
    | (go_at_call 57;(with_reducible refine (HP1.out _ HX.out HO.out).mono ?_);(rintro r wa ⟨rfl,hxa,hoa⟩);(try dsimp only);have HX:=lH hxa;have HO:=lH hoa;have c1:=hxa.c1;have cf:=hxa.fr 1;clear hxa hoa))
   go_ret
   exact ⟨rfl,HX.out,HO.out⟩
end
end Go.Proofs.YtpomkhcobpihmaaGreat
