/- Lemmas. -/
import Derived.Test.YtpomkhcobpihmaaGreatPad43
import Derived.Test.YtpomkhcobpihmaaGreatPad47
namespace Go.Proofs.YtpomkhcobpihmaaGreat
set_option maxRecDepth 100000
set_option linter.unusedVariables false
section
open Go.RowKit
def strLen:ByteArray:=⟨#[76,101,110,103,116,104]⟩
def strStm:ByteArray:=⟨#[115,116,114,101,97,109]⟩
def strEnO:ByteArray:=⟨#[101,110,100,111,98,106]⟩
def lenO (x:Ob):Ob:=getF x strLen
def Ob.num:Ob → Int
 | .mk _ n _ _ _=>n
def strmO (b:List Int):Ob → Ob
 | .mk _ n _ l d=>.mk 8 n b l (dropE [strLen] d)
def strT (zs:List Int) (R:Rt):Rt :=
 if (dataT zs (kwP zs R.q strStm) (lenO R.x).kind (lenO R.x).num).1 ≠ 0 then noR (dataT zs (kwP zs R.q strStm) (lenO R.x).kind (lenO R.x).num).1 (dataT zs (kwP zs R.q strStm) (lenO R.x).kind (lenO R.x).num).2.2
 else ⟨0,strmO (dataT zs (kwP zs R.q strStm) (lenO R.x).kind (lenO R.x).num).2.1 R.x,(dataT zs (kwP zs R.q strStm) (lenO R.x).kind (lenO R.x).num).2.2⟩
def stmB (zs:List Int) (R:Rt):Bool:=decide (R.e = 0) && (decide (R.x.kind = 7) && kwB zs R.q strStm)
def bodyT (zs:List Int) (R:Rt):Rt:=if stmB zs R = true then strT zs R else R
structure It13 where
 num:Int
 r:Rt
def itemT (zs:List Int) (f d p:Nat):It13 :=
 if (headT zs p).2.1 ≠ 0 then ⟨0,noR (headT zs p).2.1 (headT zs p).2.2⟩
 else if (bodyT zs (parF zs f .val d (headT zs p).2.2)).e ≠ 0 then ⟨0,noR (bodyT zs (parF zs f .val d (headT zs p).2.2)).e (bodyT zs (parF zs f .val d (headT zs p).2.2)).q⟩
 else if (wrdT zs (bodyT zs (parF zs f .val d (headT zs p).2.2)).q strEnO).1 ≠ 0 then ⟨0,noR (wrdT zs (bodyT zs (parF zs f .val d (headT zs p).2.2)).q strEnO).1 (wrdT zs (bodyT zs (parF zs f .val d (headT zs p).2.2)).q strEnO).2⟩
 else ⟨(headT zs p).1,⟨0,(bodyT zs (parF zs f .val d (headT zs p).2.2)).x,(wrdT zs (bodyT zs (parF zs f .val d (headT zs p).2.2)).q strEnO).2⟩⟩
def rdaT (zs:List Int) (p:Nat) (x:Ob):Rt :=
 if (lineT zs p).1 ≠ 0 then noR (lineT zs p).1 (lineT zs p).2
 else if (lenO x).kind ≠ 2 ∨ (lenO x).num < 0 then noR 4 (lineT zs p).2
 else if (zs.length:Int) - (lineT zs p).2 < (lenO x).num then noR 2 (lineT zs p).2
 else ⟨0,strmO ((zs.drop (lineT zs p).2).take (lenO x).num.toNat) x,eolT zs ((lineT zs p).2 + (lenO x).num.toNat)⟩
def rstT (zs:List Int) (D:Rt):Rt :=
 if D.e ≠ 0 then noR D.e D.q else if (wrdT zs D.q strEnS).1 ≠ 0 then noR (wrdT zs D.q strEnS).1 (wrdT zs D.q strEnS).2 else ⟨0,D.x,(wrdT zs D.q strEnS).2⟩
theorem strT_rda (zs:List Int) (R:Rt):strT zs R = rstT zs (rdaT zs (kwP zs R.q strStm) R.x):=by
 unfold strT rstT rdaT dataT
 obtain ⟨L,hL⟩:∃ L,lineT zs (kwP zs R.q strStm) = L:=⟨_,rfl⟩
 obtain ⟨n,hn⟩:∃ n,lenO R.x = n:=⟨_,rfl⟩
 rw [hL,hn]
 have hw:=wrd_eol zs (L.2 + n.num.toNat) strEnS
 obtain ⟨W,hW⟩:∃ W,wrdT zs (L.2 + n.num.toNat) strEnS = W:=⟨_,rfl⟩
 rw [hW] at hw ⊢
 by_cases h1:L.1 = 0
 ·by_cases h2:n.kind ≠ 2 ∨ n.num < 0
  ·simp only [h1,h2,ne_eq,not_true_eq_false,if_false,if_true,noR];simp
  ·by_cases h3:(zs.length:Int) - L.2 < n.num
   ·simp only [h1,h2,h3,ne_eq,not_true_eq_false,if_false,if_true,noR];simp
   ·by_cases h4:W.1 = 0
    ·simp only [h1,h2,h3,h4,hw,ne_eq,not_true_eq_false,if_false,noR]
    ·simp only [h1,h2,h3,h4,hw,ne_eq,not_true_eq_false,not_false_eq_true,if_false,if_true,noR]
 ·simp only [h1,ne_eq,not_false_eq_true,if_true,noR]
theorem cl_of {a b:Int} (ha:0 ≤ a ∧ a < 256) (hb:0 ≤ b ∧ b < 256):strOfNums [a,b] = strCL ↔ a = 13 ∧ b = 10:=by
 constructor
 ·intro h
  have h1:=congrArg (fun s:ByteArray=>s.data.toList) h
  have h2:(strOfNums [a,b]).data.toList = [13,10]:=h1
  rw [strOfNums_data] at h2
  simp at h2
  have h3:=congrArg UInt8.toNat h2.1
  have h4:=congrArg UInt8.toNat h2.2
  simp at h3 h4
  omega
 ·rintro ⟨rfl,rfl⟩;rfl
theorem cl_peek (zs:List Int) (p:Nat) (hr:∀ z ∈ zs,0 ≤ z ∧ z < 256):stB zs p strCL = (decide (peekZ zs (p:Int) = 13) && decide (peekZ zs ((p + 1:Nat):Int) = 10)):=by
 have hs:strCL.size = 2:=rfl
 by_cases h:p + 2 ≤ zs.length
 ·rw [stB_yes zs p strCL (by rw [hs];exact h),hs,drop_peek zs p (by omega),drop_peek zs (p + 1) (by omega)]
  have ha:0 ≤ peekZ zs (p:Int) ∧ peekZ zs (p:Int) < 256:=by rw [peekZ_in zs p (by omega),getD_eq zs p (by omega)];exact hr _ (List.getElem_mem _)
  have hb:0 ≤ peekZ zs ((p + 1:Nat):Int) ∧ peekZ zs ((p + 1:Nat):Int) < 256:=by rw [peekZ_in zs (p + 1) (by omega),getD_eq zs (p + 1) (by omega)];exact hr _ (List.getElem_mem _)
  obtain ⟨a,hae⟩:∃ a,peekZ zs (p:Int) = a:=⟨_,rfl⟩
  obtain ⟨b,hbe⟩:∃ b,peekZ zs ((p + 1:Nat):Int) = b:=⟨_,rfl⟩
  rw [hae] at ha
  rw [hbe] at hb
  rw [hae,hbe,List.take_succ_cons,List.take_succ_cons,List.take_zero,← Bool.decide_and]
  by_cases h1:a = 13 ∧ b = 10
  ·rw [decide_eq_true h1,h1.1,h1.2,show strOfNums [13,10] = strCL by rfl];exact beq_self_eq_true _
  ·rw [decide_eq_false h1]
   exact beq_eq_false_iff_ne.2 (fun e=>h1 ((cl_of ha hb).1 (toListB_inj e)))
 ·rw [stB_no zs p _ (by rw [hs];omega),peekZ_nat zs (p + 1) (by omega)];simp
theorem lf_peek (zs:List Int) (p:Nat) (hr:∀ z ∈ zs,0 ≤ z ∧ z < 256):stB zs p strLF = decide (peekZ zs (p:Int) = 10):=st1_peek zs p 10 hr
theorem eolT_eolZ (zs:List Int) (p:Nat):(eolZ zs p).2 = eolT zs p:=by
 unfold eolZ eolT
 by_cases h1:peekZ zs (p:Int) = 13
 ·by_cases h2:peekZ zs ((p + 1:Nat):Int) = 10
  ·rw [if_pos h1,if_pos (And.intro h1 h2)];exact if_pos h2
  ·rw [if_pos h1,if_neg (fun h=>h2 (And.right h)),if_pos (Or.inl h1)];exact if_neg h2
 ·by_cases h2:peekZ zs (p:Int) = 10
  ·rw [if_neg h1,if_pos h2,if_neg (fun h=>h1 (And.left h)),if_pos (Or.inr h2)]
  ·rw [if_neg h1,if_neg h2,if_neg (fun h=>h1 (And.left h)),if_neg (fun h=>Or.elim h h1 h2)]
theorem dropE_len (ks:List ByteArray) (d:Ens):(dropE ks d).len ≤ d.len:=by
 unfold dropE
 rw [Ens.ofL_len,← Ens.toL_len]
 exact List.length_filter_le _ _
theorem wd_nul (W:Nat):wdO W nulO:=by
 unfold nulO wdO
 exact ⟨by simp,by simp [Obs.len,Ens.len],by unfold wdL;trivial,by unfold wdE;trivial⟩
theorem dropE_g {W D:Nat} (s:ByteArray) (hs:s.size ≤ 1000000) (hD:1 ≤ D) {d:Ens} (h:gE W D d):gE W D (dropE [s] d):=by
 rw [← with_drop];exact gE_with W D s nulO hs ⟨wd_nul W,by unfold nulO;rw [htO,htL,htE];omega⟩ d true h
theorem g_parts {W D:Nat} {k n:Int} {b:List Int} {l:Obs} {d:Ens} (h:gO W D (.mk k n b l d)):wdO W (.mk k n b l d) ∧ wdE W d ∧ htE d ≤ D ∧ (∀ p ∈ d.toL,p.1.size ≤ 1000000) ∧ d.len ≤ W ∧ wdO W (.mk k n b l (dropE [strLen] d)) ∧ (1 ≤ D → htO (.mk k n b l (dropE [strLen] d)) ≤ D + 1):=by
 obtain ⟨h1,h2,h3⟩:=h
 have h1':=h1
 unfold wdO at h1
 obtain ⟨ha,hb,hc,hd⟩:=h1
 rw [htO] at h2
 refine ⟨h1',hd,by omega,h3,by omega,?_,fun hD=>?_⟩
 ·have:=(dropE_g (W:=W) (D:=max 1 (htE d)) strLen (by decide) (by omega) ⟨hd,by omega,h3⟩).1
  have:=dropE_len [strLen] d
  unfold wdO
  exact ⟨ha,by omega,hc,by assumption⟩
 ·have:=(dropE_g (W:=W) (D:=max 1 (htE d)) strLen (by decide) (by omega) ⟨hd,by omega,h3⟩).2.1
  rw [htO]
  omega
end
section
open Go.RowKit
theorem byt_any {W:World} {S:Nat → Prop} {B lo:Nat} {A:Option Addr} {l c:Nat} {b:List Int} (hy:Byt W B A l c b) (hf:From lo A l) (hl:b.length ≤ 1000000) (hS:∀ y,lo ≤ y → y < B → S y):BytS W S A l c b :=
 ⟨hy.len,⟨hy.cap,by have:=hy.len;omega⟩,hy.rng,fun hn=>by
  obtain ⟨b',o,e,hlt,hc⟩:=hy.cell hn
  have:=hf hn b' o e
  exact ⟨b',o,e,hS _ (by omega) hlt,hc⟩⟩
theorem ob_stm {W W':World} {S S':Nat → Prop} {n:Int} {b Z:List Int} {l:Obs} {d:Ens} {e0 e1 e2 e3 e4:Value} {A':Option Addr} {l' c':Nat} (h:ObR W S (.mk 7 n b l d) e0 e1 e2 e3 e4) (hb:∀ y,S y → W'.heap[y]? = W.heap[y]?) (hS:∀ y,S y → S' y) (hB:BytS W' S' A' l' c' Z):ObR W' S' (.mk 8 n Z l d) (.int .i64 8) e1 (.slice A' l' c') e3 e4:=by
 have h':=ObR.keep hb hS _ h
 unfold ObR at h' ⊢
 obtain ⟨h0,h1,hk,hn,-,h3,h4⟩:=h'
 exact ⟨rfl,h1,by omega,hn,⟨A',l',c',rfl,hB⟩,h3,h4⟩
theorem dataT_len (zs:List Int) (p:Nat) (k v:Int):(dataT zs p k v).2.1.length ≤ zs.length:=by
 unfold dataT
 split
 ·simp
 split
 ·simp
 split
 ·simp
 split
 ·simp
 ·simp only [List.length_take,List.length_drop];omega
theorem eolT_le (zs:List Int) (p:Nat) (h:p ≤ zs.length):eolT zs p ≤ zs.length:=by
 unfold eolT
 split
 ·rename_i h1
  have:=peekZ_lt zs (p + 1) (by omega)
  omega
 split
 ·rename_i h1
  have:=peekZ_lt zs p (by omega)
  omega
 ·exact h
theorem keys_one (W:World) (s:ByteArray):KeysV (W.alloc (.cells #[.string s] 9)) (some ⟨W.heap.size,0,none⟩) [s]:=fun _ =>
 ⟨W.heap.size,0,rfl,by simp,fun i t ht=>by
  rcases i with _ | i
  ·simp at ht;subst ht
   exact cell_of_row _ W.heap.size 0 _ _ (0,0) (heap_alloc_new W _)
  ·simp at ht⟩
theorem numT_le (zs:List Int) (p:Nat) (lo hi:Int) (h:p ≤ zs.length):(numT zs p lo hi).2.2 ≤ zs.length:=by
 have h1:=tokT_q zs p h
 have h2:=(blkP_le zs p h).2
 unfold numT
 split
 ·exact h1
 ·split
  ·exact h1
  ·exact h2
theorem wrdT_le (zs:List Int) (p:Nat) (s:ByteArray) (h:p ≤ zs.length):(wrdT zs p s).2 ≤ zs.length:=by
 have h1:=tokT_q zs p h
 have h2:=(blkP_le zs p h).2
 unfold wrdT
 split
 ·exact h1
 ·split
  ·exact h1
  ·exact h2
def finT (zs:List Int) (V:Int) (B:Rt):It13 :=
 if B.e ≠ 0 then ⟨0,noR B.e B.q⟩ else if (wrdT zs B.q strEnO).1 ≠ 0 then ⟨0,noR (wrdT zs B.q strEnO).1 (wrdT zs B.q strEnO).2⟩ else ⟨V,⟨0,B.x,(wrdT zs B.q strEnO).2⟩⟩
theorem item_fin (zs:List Int) (f d p:Nat) (V:Int) (Q:Nat) (hh:headT zs p = (V,0,Q)):itemT zs f d p = finT zs V (bodyT zs (parF zs f .val d Q)):=by
 unfold itemT finT
 rw [hh]
 exact if_neg (fun h=>h rfl)
theorem body_no (zs:List Int) (R:Rt) (h:stmB zs R = false):bodyT zs R = R:=by
 unfold bodyT;rw [h];rfl
theorem body_yes (zs:List Int) (R:Rt) (h:stmB zs R = true):bodyT zs R = rstT zs (rdaT zs (kwP zs R.q strStm) R.x):=by
 unfold bodyT;rw [if_pos h,strT_rda]
end
section
open Go.RowKit
structure RdS (w W:World) (m:Nat) (A:Option Addr) (n c d:Nat) (zs:List Int) (q:Nat) (X:Ob) (c0 c1 c2 c3 c4:Value):Prop where
 px:RX W m A n c d zs q
 on:Only m w W
 rs:RsB (w.heap.size + 1) W
 bx:W.heap[w.heap.size]? = some (.cells #[c0,c1,c2,c3,c4] 27 (0,0))
 ob:ObR W (fun y=>y < w.heap.size ∧ y ≠ m) X c0 c1 c2 c3 c4
 lt:m < w.heap.size
section
variable {w W W':World} {m n c d q q':Nat} {A:Option Addr} {zs:List Int} {X:Ob} {c0 c1 c2 c3 c4:Value}
theorem RdS.sz (s:RdS w W m A n c d zs q X c0 c1 c2 c3 c4):w.heap.size + 2 ≤ W.heap.size:=s.rs.lt
theorem RdS.only (s:RdS w W m A n c d zs q X c0 c1 c2 c3 c4) (hp:RX W' m A n c d zs q') (ho:Only m W W'):RdS w W' m A n c d zs q' X c0 c1 c2 c3 c4 :=
 have hs:=s.sz
 have hm:=s.lt
 ⟨hp,s.on.trans ho,s.rs.only ho (by omega),box_keep5 s.bx ho (by omega),ObR.keep (fun y hy=>ho.block y (by omega) hy.2) (fun y hy=>hy) _ s.ob,s.lt⟩
theorem RdS.low (s:RdS w W m A n c d zs q X c0 c1 c2 c3 c4) (hb:Below W.heap.size W W'):RdS w W' m A n c d zs q X c0 c1 c2 c3 c4 :=
 s.only (s.px.low hb) (Only.of_below hb m)
theorem RdS.drewN (s:RdS w W m A n c d zs q X c0 c1 c2 c3 c4) (k:Nat):RdS w (W.drewN k) m A n c d zs q X c0 c1 c2 c3 c4 :=
 s.only (s.px.drewN k) ((Only.refl m W).drewN k)
theorem RdS.seek (s:RdS w W m A n c d zs q X c0 c1 c2 c3 c4) (L:Nat) (hL:L ≤ n):RdS w (W.setCell ⟨m,1,none⟩ (.int .i64 (L:Int))) m A n c d zs L X c0 c1 c2 c3 c4 :=
 s.only (s.px.seek L hL).1 (s.px.seek L hL).2
theorem RdS.pk0 (s:RdS w W m A n c d zs q X c0 c1 c2 c3 c4) :
  Calls Tryz.prog 57 #[.pointer (some ⟨m,0,none⟩),.int .i64 0] W fun e w'=>e = .returned (.int .i64 (peekZ zs (q:Int))) ∧ RdS w w' m A n c d zs q X c0 c1 c2 c3 c4:=by
 refine (rpeek0 m n c q m _ _ A zs W s.px.ld s.px.bt (by have:=s.px.sm;omega) (by have:=s.px.pl;have:=s.px.sm;omega)).mono ?_
 rintro r w' ⟨rfl,k,rfl⟩
 exact ⟨rfl,s.only (s.px.drewN k) ((Only.refl m W).drewN k)⟩
theorem RdS.pk1 (s:RdS w W m A n c d zs q X c0 c1 c2 c3 c4) :
  Calls Tryz.prog 57 #[.pointer (some ⟨m,0,none⟩),.int .i64 1] W fun e w'=>e = .returned (.int .i64 (peekZ zs ((q + 1:Nat):Int))) ∧ RdS w w' m A n c d zs q X c0 c1 c2 c3 c4:=by
 refine (rpeek1 m n c q m _ _ A zs W s.px.ld s.px.bt (by have:=s.px.sm;omega) (by have:=s.px.pl;have:=s.px.sm;omega)).mono ?_
 rintro r w' ⟨rfl,k,rfl⟩
 exact ⟨rfl,s.only (s.px.drewN k) ((Only.refl m W).drewN k)⟩
theorem RdS.nul (s:RdS w W m A n c d zs q X c0 c1 c2 c3 c4):FinR m A n c d zs w W (w.heap.size + 1) nulO q (.int .i64 0) (.int .i64 0) (.slice none 0 0) (.slice none 0 0) (.slice none 0 0) :=
 s.rs.finR (Nat.le_succ _) (ob_nul _ _) s.px s.on s.lt
end
theorem RX.set1 {w:World} {m n c d p b:Nat} {A:Option Addr} {zs:List Int} (x:RX w m A n c d zs p) (hm:m < b) (i:Nat) (v:Value):RX (w.setCell ⟨b,i,none⟩ v) m A n c d zs p :=
 ⟨x.ld.keep (set_blk9 w b i m v (Nat.ne_of_lt hm)),
  ⟨x.bt.len,x.bt.cap,x.bt.rng,fun hn=>by
  obtain ⟨b',o,e,hlt,hc⟩:=x.bt.cell hn
  exact ⟨b',o,e,hlt,fun j hj=>(World.cell?_of_block (a:=⟨b',o + j,none⟩) (set_blk9 w b i b' v (by omega))).trans (hc j hj)⟩⟩,x.pl,x.sm⟩
theorem RdS.set {w W:World} {m n c d q b:Nat} {A:Option Addr} {zs:List Int} {X:Ob} {c0 c1 c2 c3 c4:Value} (s:RdS w W m A n c d zs q X c0 c1 c2 c3 c4) (hb:w.heap.size + 2 ≤ b) (i:Nat) (v:Value):RdS w (W.setCell ⟨b,i,none⟩ v) m A n c d zs q X c0 c1 c2 c3 c4 :=
 have hm:=s.lt
 ⟨s.px.set1 (by omega) i v,s.on.setN (by omega) i v,(set_blk9 W b i _ v (by omega)).trans s.rs,(set_blk9 W b i _ v (by omega)).trans s.bx,ObR.keep (fun y hy=>set_blk9 W b i y v (by omega)) (fun y hy=>hy) _ s.ob,s.lt⟩
structure RdT (w W:World) (m:Nat) (A:Option Addr) (n c d:Nat) (zs:List Int) (q:Nat) (X:Ob) (c0 c1 c2 c3 c4:Value) (bg bt:Nat) (gl:List Value) (Y:Ob) (f0 f1 f2 f3 f4:Value) (tl:List Value):Prop where
 s:RdS w W m A n c d zs q X c0 c1 c2 c3 c4
 gb:W.heap[bg]? = some (.cells gl.toArray 27 (0,0))
 tb:W.heap[bt]? = some (.cells tl.toArray 27 (0,0))
 ot:ObR W (fun y=>w.heap.size + 2 ≤ y ∧ y ≠ bt ∧ y < W.heap.size) Y f0 f1 f2 f3 f4
 g2:w.heap.size + 2 ≤ bg
 t2:bg < bt
section
variable {w W W':World} {m n c d q q' bg bt:Nat} {A:Option Addr} {zs:List Int} {X Y:Ob} {c0 c1 c2 c3 c4 f0 f1 f2 f3 f4:Value} {gl tl:List Value}
theorem RdT.only (s:RdT w W m A n c d zs q X c0 c1 c2 c3 c4 bg bt gl Y f0 f1 f2 f3 f4 tl) (hp:RX W' m A n c d zs q') (ho:Only m W W'):RdT w W' m A n c d zs q' X c0 c1 c2 c3 c4 bg bt gl Y f0 f1 f2 f3 f4 tl :=
 have hm:=s.s.lt
 have h2:=s.g2
 have h3:=s.t2
 ⟨s.s.only hp ho,(ho.block _ (row_lt _ _ _ s.gb) (by omega)).trans s.gb,(ho.block _ (row_lt _ _ _ s.tb) (by omega)).trans s.tb,ObR.keep (fun y hy=>ho.block y hy.2.2 (by omega)) (fun y hy=>⟨hy.1,hy.2.1,Nat.lt_of_lt_of_le hy.2.2 ho.size⟩) _ s.ot,h2,h3⟩
theorem RdT.low (s:RdT w W m A n c d zs q X c0 c1 c2 c3 c4 bg bt gl Y f0 f1 f2 f3 f4 tl) (hb:Below W.heap.size W W'):RdT w W' m A n c d zs q X c0 c1 c2 c3 c4 bg bt gl Y f0 f1 f2 f3 f4 tl :=
 s.only (s.s.px.low hb) (Only.of_below hb m)
theorem RdT.setT (s:RdT w W m A n c d zs q X c0 c1 c2 c3 c4 bg bt gl Y f0 f1 f2 f3 f4 tl) (i:Nat) (v:Value):RdT w (W.setCell ⟨bt,i,none⟩ v) m A n c d zs q X c0 c1 c2 c3 c4 bg bt gl Y f0 f1 f2 f3 f4 (tl.set i v) :=
 have h2:=s.g2
 have h3:=s.t2
 ⟨s.s.set (by omega) i v,(set_blk9 W bt i _ v (by omega)).trans s.gb,heap_set W bt i v tl _ s.tb,ObR.keep (fun y hy=>set_blk9 W bt i y v hy.2.1) (fun y hy=>⟨hy.1,hy.2.1,by simp [World.setCell];exact hy.2.2⟩) _ s.ot,h2,h3⟩
theorem RdT.seek (s:RdT w W m A n c d zs q X c0 c1 c2 c3 c4 bg bt gl Y f0 f1 f2 f3 f4 tl) (L:Nat) (hL:L ≤ n):RdT w (W.setCell ⟨m,1,none⟩ (.int .i64 (L:Int))) m A n c d zs L X c0 c1 c2 c3 c4 bg bt gl Y f0 f1 f2 f3 f4 tl :=
 s.only (s.s.px.seek L hL).1 (s.s.px.seek L hL).2
theorem RdT.fr (s:RdT w W m A n c d zs q X c0 c1 c2 c3 c4 bg bt gl Y f0 f1 f2 f3 f4 tl) (i:Nat):W.frozen? ⟨bt,i,none⟩ = false:=by
 have:=s.tb
 simp [World.frozen?,this]
end
theorem line_cases (zs:List Int) (p:Nat) (hr:∀ z ∈ zs,0 ≤ z ∧ z < 256) :
  (peekZ zs (p:Int) = 13 ∧ peekZ zs ((p + 1:Nat):Int) = 10 ∧ p + 2 ≤ zs.length ∧ lineT zs p = (0,p + 2)) ∨
  ((¬ (peekZ zs (p:Int) = 13 ∧ peekZ zs ((p + 1:Nat):Int) = 10)) ∧ peekZ zs (p:Int) = 10 ∧ p + 1 ≤ zs.length ∧ lineT zs p = (0,p + 1)) ∨
  ((¬ (peekZ zs (p:Int) = 13 ∧ peekZ zs ((p + 1:Nat):Int) = 10)) ∧ peekZ zs (p:Int) ≠ 10 ∧ peekZ zs (p:Int) < 0 ∧ lineT zs p = (2,p)) ∨
  ((¬ (peekZ zs (p:Int) = 13 ∧ peekZ zs ((p + 1:Nat):Int) = 10)) ∧ peekZ zs (p:Int) ≠ 10 ∧ ¬ peekZ zs (p:Int) < 0 ∧ lineT zs p = (4,p)):=by
 unfold lineT
 rw [cl_peek zs p hr,lf_peek zs p hr]
 by_cases h1:peekZ zs (p:Int) = 13 ∧ peekZ zs ((p + 1:Nat):Int) = 10
 ·have:=peekZ_lt zs (p + 1) (by omega)
  exact .inl ⟨h1.1,h1.2,by omega,by rw [if_pos (by rw [decide_eq_true h1.1,decide_eq_true h1.2];rfl)]⟩
 ·have hc:(decide (peekZ zs (p:Int) = 13) && decide (peekZ zs ((p + 1:Nat):Int) = 10)) = false:=by
   rw [← Bool.decide_and];exact decide_eq_false h1
  rw [hc,if_neg (by decide)]
  by_cases h2:peekZ zs (p:Int) = 10
  ·have:=peekZ_lt zs p (by omega)
   exact .inr (.inl ⟨h1,h2,by omega,by rw [decide_eq_true h2,if_pos rfl]⟩)
  ·rw [decide_eq_false h2,if_neg (by decide)]
   by_cases h3:peekZ zs (p:Int) < 0
   ·refine .inr (.inr (.inl ⟨h1,h2,h3,if_pos ?_⟩))
    rcases Nat.lt_or_ge p zs.length with hq | hq
    ·exfalso
     rw [peekZ_in zs p hq,getD_eq zs p hq] at h3
     have:=hr _ (List.getElem_mem hq)
     omega
    ·exact hq
   ·refine .inr (.inr (.inr ⟨h1,h2,h3,if_neg ?_⟩))
    intro hq
    rw [peekZ_nat zs p hq] at h3
    omega
set_option maxHeartbeats 4000000 in
theorem rdataNo {w:World} {m n c d p:Nat} {A:Option Addr} {zs:List Int} (x:RX w m A n c d zs p) (nx:Int) (bx:List Int) (lx:Obs) (dx:Ens) (S:Nat → Prop) (c0 c1 c2 c3 c4:Value)
  (hob:ObR w S (.mk 7 nx bx lx dx) c0 c1 c2 c3 c4) (hS:∀ y,S y → y < w.heap.size ∧ y ≠ m) (hno:(lineT zs p).1 ≠ 0) :
  Calls Tryz.prog 34 #[.pointer (some ⟨m,0,none⟩),.agg #[c0,c1,c2,c3,c4]] w (RvP m A n c d zs w (rdaT zs p (.mk 7 nx bx lx dx))):=by
 have hc:=line_cases zs p x.bt.rng
 unfold rdaT
 rw [if_pos hno]
 have hb1:=(Below.refl w.heap.size w).alloc (Nat.le_refl _) (.cells #[c0,c1,c2,c3,c4] 27)
 have hn1:=heap_alloc_new w (.cells #[c0,c1,c2,c3,c4] 27)
 obtain ⟨W1,hW1⟩:∃ W1,w.alloc (.cells #[c0,c1,c2,c3,c4] 27) = W1:=⟨_,rfl⟩
 have hs1:W1.heap.size = w.heap.size + 1:=by rw [← hW1];simp
 rw [hW1] at hb1 hn1
 have hb0:=(Below.refl W1.heap.size W1).alloc (Nat.le_refl _) (.cells #[.int .i64 0,.int .i64 0,.slice none 0 0,.slice none 0 0,.slice none 0 0] 27)
 have hn0:=heap_alloc_new W1 (.cells #[.int .i64 0,.int .i64 0,.slice none 0 0,.slice none 0 0,.slice none 0 0] 27)
 obtain ⟨W0,hW0⟩:∃ W0,W1.alloc (.cells #[.int .i64 0,.int .i64 0,.slice none 0 0,.slice none 0 0,.slice none 0 0] 27) = W0:=⟨_,rfl⟩
 rw [hW0] at hb0 hn0
 rw [hs1] at hn0
 have hbw:=hb1.trans (hb0.mono hb1.size)
 have hs0:RdS w W0 m A n c d zs p (.mk 7 nx bx lx dx) c0 c1 c2 c3 c4:=⟨x.low hbw,Only.of_below hbw m,hn0,(hb0.block _ (row_lt _ _ _ hn1)).trans hn1,ObR.keep (fun y hy=>hbw.block y (hS y hy).1) hS _ hob,x.lt⟩
 obtain ⟨k9,n9,A29,m29,c29,A39,m39,c39,A49,m49,c49,rfl,rfl,rfl,rfl,rfl⟩:=hob.form
 have HS:=lH hs0
 have HW1:=lH hW1
 have HW0:=lH hW0
 have hsm:=x.sm
 have hzl:=x.len
 have hbt:=x.bt.rng
 clear x hob hS hb1 hn1 hW1 hs1 hb0 hn0 hW0 hbw hs0
 clear hsm hzl hbt
 have HP0:Hid (∀ (W:World),RdS w W m A n c d zs p (.mk 7 nx bx lx dx) (.int .i64 k9) (.int .i64 n9) (.slice A29 m29 c29) (.slice A39 m39 c39) (.slice A49 m49 c49) → Calls Tryz.prog 57 #[.pointer (some ⟨m,0,none⟩),.int .i64 0] W fun e w'=>e = .returned (.int .i64 (peekZ zs (p:Int))) ∧ RdS w w' m A n c d zs p (.mk 7 nx bx lx dx) (.int .i64 k9) (.int .i64 n9) (.slice A29 m29 c29) (.slice A39 m39 c39) (.slice A49 m49 c49)):=lH (fun W s=>s.pk0)
 have HP1:Hid (∀ (W:World),RdS w W m A n c d zs p (.mk 7 nx bx lx dx) (.int .i64 k9) (.int .i64 n9) (.slice A29 m29 c29) (.slice A39 m39 c39) (.slice A49 m49 c49) → Calls Tryz.prog 57 #[.pointer (some ⟨m,0,none⟩),.int .i64 1] W fun e w'=>e = .returned (.int .i64 (peekZ zs ((p + 1:Nat):Int))) ∧ RdS w w' m A n c d zs p (.mk 7 nx bx lx dx) (.int .i64 k9) (.int .i64 n9) (.slice A29 m29 c29) (.slice A39 m39 c39) (.slice A49 m49 c49)):=lH (fun W s=>s.pk1)
 obtain ⟨LT,hLT⟩:∃ LT,lineT zs p = LT:=⟨_,rfl⟩
 rw [hLT] at hc hno ⊢
 obtain ⟨a,ha⟩:∃ a,peekZ zs (p:Int) = a:=⟨_,rfl⟩
 obtain ⟨b,hb⟩:∃ b,peekZ zs ((p + 1:Nat):Int) = b:=⟨_,rfl⟩
 rw [ha] at hc HP0
 rw [hb] at hc HP1
 clear hLT ha hb
 rcases hc with ⟨_,_,_,rfl⟩ | ⟨_,_,_,rfl⟩ | ⟨h1,h2,h3,rfl⟩ | ⟨h1,h2,h3,rfl⟩
 ·exact absurd rfl hno
 ·exact absurd rfl hno
 ·have e1:(a == 13) = false:=beq_eq_false_iff_ne.2 (by omega)
  have e2:(a == 10) = false:=beq_eq_false_iff_ne.2 h2
  clear hno h1 h2
  go_enter Tryz.func34,Tryz.ntmps34
  go_upto_region 2 with fail
  rw [HW1.out,HW0.out]
  go_upto_region 7 with (first
   | (go_at_call 57;(with_reducible refine (HP0.out _ HS.out).mono ?_);(rintro r wn ⟨rfl,hsn⟩);clear HS;have HS:=lH hsn;clear hsn)
   | (go_at_call 57;(with_reducible refine (HP1.out _ HS.out).mono ?_);(rintro r wn ⟨rfl,hsn⟩);clear HS;have HS:=lH hsn;clear hsn))
  have HF:=lH (RdS.nul HS.out)
  obtain ⟨r0,r1,r2,r3,r4,r5⟩:=zero_cells (RdS.rs HS.out)
  go_wp2_with fail
  refine bodyPost_ret (results_cell_row_tmp rfl _ _ (w.heap.size + 1) 27 _ (0,0) _ rfl HF.out.row Tryz.underlying27 rfl (by kernel_rfl) _ rfl) rfl ?_
  exact ⟨_,_,_,_,_,rfl,HF.out.ob,HF.out.px,HF.out.on⟩
 ·have e2:(a == 10) = false:=beq_eq_false_iff_ne.2 h2
  by_cases h13:a = 13
  ·have e1:(a == 13) = true:=beq_iff_eq.2 h13
   have e3:(b == 10) = false:=beq_eq_false_iff_ne.2 (fun h=>h1 ⟨h13,h⟩)
   clear hno h1 h2 h13
   go_enter Tryz.func34,Tryz.ntmps34
   go_upto_region 2 with fail
   rw [HW1.out,HW0.out]
   go_upto_region 1 with (first
   | (go_at_call 57;(with_reducible refine (HP0.out _ HS.out).mono ?_);(rintro r wn ⟨rfl,hsn⟩);clear HS;have HS:=lH hsn;clear hsn)
   | (go_at_call 57;(with_reducible refine (HP1.out _ HS.out).mono ?_);(rintro r wn ⟨rfl,hsn⟩);clear HS;have HS:=lH hsn;clear hsn))
   have HF:=lH (RdS.nul HS.out)
   obtain ⟨r0,r1,r2,r3,r4,r5⟩:=zero_cells (RdS.rs HS.out)
   go_wp2_with fail
   refine bodyPost_ret (results_cell_row_tmp rfl _ _ (w.heap.size + 1) 27 _ (0,0) _ rfl HF.out.row Tryz.underlying27 rfl (by kernel_rfl) _ rfl) rfl ?_
   exact ⟨_,_,_,_,_,rfl,HF.out.ob,HF.out.px,HF.out.on⟩
  ·have e1:(a == 13) = false:=beq_eq_false_iff_ne.2 h13
   clear hno h1 h2 h13
   go_enter Tryz.func34,Tryz.ntmps34
   go_upto_region 2 with fail
   rw [HW1.out,HW0.out]
   go_upto_region 1 with (first
   | (go_at_call 57;(with_reducible refine (HP0.out _ HS.out).mono ?_);(rintro r wn ⟨rfl,hsn⟩);clear HS;have HS:=lH hsn;clear hsn)
   | (go_at_call 57;(with_reducible refine (HP1.out _ HS.out).mono ?_);(rintro r wn ⟨rfl,hsn⟩);clear HS;have HS:=lH hsn;clear hsn))
   have HF:=lH (RdS.nul HS.out)
   obtain ⟨r0,r1,r2,r3,r4,r5⟩:=zero_cells (RdS.rs HS.out)
   go_wp2_with fail
   refine bodyPost_ret (results_cell_row_tmp rfl _ _ (w.heap.size + 1) 27 _ (0,0) _ rfl HF.out.row Tryz.underlying27 rfl (by kernel_rfl) _ rfl) rfl ?_
   exact ⟨_,_,_,_,_,rfl,HF.out.ob,HF.out.px,HF.out.on⟩
set_option maxHeartbeats 8000000 in
theorem rdataYes {w:World} {m n c d p:Nat} {A:Option Addr} {zs:List Int} (x:RX w m A n c d zs p) (nx:Int) (bx:List Int) (lx:Obs) (dx:Ens) (S:Nat → Prop) (c0 c1 c2 c3 c4:Value)
  (hob:ObR w S (.mk 7 nx bx lx dx) c0 c1 c2 c3 c4) (hS:∀ y,S y → y < w.heap.size ∧ y ≠ m) (hok:okO (.mk 7 nx bx lx dx)) (hdl:dx.len ≤ 90000000) (hno:(lineT zs p).1 = 0) :
  Calls Tryz.prog 34 #[.pointer (some ⟨m,0,none⟩),.agg #[c0,c1,c2,c3,c4]] w (RvP m A n c d zs w (rdaT zs p (.mk 7 nx bx lx dx))):=by
 have hc:=line_cases zs p x.bt.rng
 have hokE:okE dx:=by unfold okO at hok;exact hok.2.2.2.2
 obtain ⟨RR,hRR⟩:∃ RR,rdaT zs p (.mk 7 nx bx lx dx) = RR:=⟨_,rfl⟩
 rw [hRR]
 have hb1:=(Below.refl w.heap.size w).alloc (Nat.le_refl _) (.cells #[c0,c1,c2,c3,c4] 27)
 have hn1:=heap_alloc_new w (.cells #[c0,c1,c2,c3,c4] 27)
 obtain ⟨W1,hW1⟩:∃ W1,w.alloc (.cells #[c0,c1,c2,c3,c4] 27) = W1:=⟨_,rfl⟩
 have hs1:W1.heap.size = w.heap.size + 1:=by rw [← hW1];simp
 rw [hW1] at hb1 hn1
 have hb0:=(Below.refl W1.heap.size W1).alloc (Nat.le_refl _) (.cells #[.int .i64 0,.int .i64 0,.slice none 0 0,.slice none 0 0,.slice none 0 0] 27)
 have hn0:=heap_alloc_new W1 (.cells #[.int .i64 0,.int .i64 0,.slice none 0 0,.slice none 0 0,.slice none 0 0] 27)
 obtain ⟨W0,hW0⟩:∃ W0,W1.alloc (.cells #[.int .i64 0,.int .i64 0,.slice none 0 0,.slice none 0 0,.slice none 0 0] 27) = W0:=⟨_,rfl⟩
 rw [hW0] at hb0 hn0
 rw [hs1] at hn0
 have hbw:=hb1.trans (hb0.mono hb1.size)
 have hs0:RdS w W0 m A n c d zs p (.mk 7 nx bx lx dx) c0 c1 c2 c3 c4:=⟨x.low hbw,Only.of_below hbw m,hn0,(hb0.block _ (row_lt _ _ _ hn1)).trans hn1,ObR.keep (fun y hy=>hbw.block y (hS y hy).1) hS _ hob,x.lt⟩
 obtain ⟨k9,n9,A29,m29,c29,A39,m39,c39,A49,m49,c49,rfl,rfl,rfl,rfl,rfl⟩:=hob.form
 have HS:=lH hs0
 have HW1:=lH hW1
 have HW0:=lH hW0
 have hsm:=x.sm
 have hzl:=x.len
 have hbt:=x.bt.rng
 clear x hob hS hb1 hn1 hW1 hs1 hb0 hn0 hW0 hbw hs0
 have HP0:Hid (∀ (W:World),RdS w W m A n c d zs p (.mk 7 nx bx lx dx) (.int .i64 k9) (.int .i64 n9) (.slice A29 m29 c29) (.slice A39 m39 c39) (.slice A49 m49 c49) → Calls Tryz.prog 57 #[.pointer (some ⟨m,0,none⟩),.int .i64 0] W fun e w'=>e = .returned (.int .i64 (peekZ zs (p:Int))) ∧ RdS w w' m A n c d zs p (.mk 7 nx bx lx dx) (.int .i64 k9) (.int .i64 n9) (.slice A29 m29 c29) (.slice A39 m39 c39) (.slice A49 m49 c49)):=lH (fun W s=>s.pk0)
 have HP1:Hid (∀ (W:World),RdS w W m A n c d zs p (.mk 7 nx bx lx dx) (.int .i64 k9) (.int .i64 n9) (.slice A29 m29 c29) (.slice A39 m39 c39) (.slice A49 m49 c49) → Calls Tryz.prog 57 #[.pointer (some ⟨m,0,none⟩),.int .i64 1] W fun e w'=>e = .returned (.int .i64 (peekZ zs ((p + 1:Nat):Int))) ∧ RdS w w' m A n c d zs p (.mk 7 nx bx lx dx) (.int .i64 k9) (.int .i64 n9) (.slice A29 m29 c29) (.slice A39 m39 c39) (.slice A49 m49 c49)):=lH (fun W s=>s.pk1)
 have HGT:=lH (fun (q:Nat) (W:World) (s:RdS w W m A n c d zs q (.mk 7 nx bx lx dx) (.int .i64 k9) (.int .i64 n9) (.slice A29 m29 c29) (.slice A39 m39 c39) (.slice A49 m49 c49))=>refGetC (.mk 7 nx bx lx dx) strLen _ W _ _ _ _ _ s.ob (fun y hy=>Nat.lt_of_lt_of_le hy.1 s.on.size) (by rw [keyedE,if_pos (.inl rfl)];exact hokE))
 have HDR:=lH (fun (q:Nat) (W W':World) (AK:Option Addr) (cK:Nat) (s:RdS w W m A n c d zs q (.mk 7 nx bx lx dx) (.int .i64 k9) (.int .i64 n9) (.slice A29 m29 c29) (.slice A39 m39 c39) (.slice A49 m49 c49)) (hb:Below W.heap.size W W') (hK:KeysV W' AK [strLen])=>rDropC nx bx lx dx [strLen] AK cK _ W' _ _ _ _ _ (s.low hb).ob (fun y hy=>Nat.lt_of_lt_of_le hy.1 (s.low hb).on.size) hK (by decide) hok hdl)
 rw [drop_both] at HDR
 have hlo:lenO (.mk 7 nx bx lx dx) = getF (.mk 7 nx bx lx dx) strLen:=rfl
 rw [← hlo] at HGT
 obtain ⟨G,hG⟩:∃ G,lenO (.mk 7 nx bx lx dx) = G:=⟨_,rfl⟩
 obtain ⟨gk,gn,gb,gl,gd⟩:=G
 rw [hG] at HGT
 have hway:∃ L:Nat,L ≤ n ∧ lineT zs p = (0,L) ∧ ((peekZ zs (p:Int) = 13 ∧ peekZ zs ((p + 1:Nat):Int) = 10 ∧ L = p + 2) ∨ ((¬ (peekZ zs (p:Int) = 13 ∧ peekZ zs ((p + 1:Nat):Int) = 10)) ∧ peekZ zs (p:Int) = 10 ∧ L = p + 1)):=by
  rcases hc with ⟨h1,h2,h3,h4⟩ | ⟨h1,h2,h3,h4⟩ | ⟨_,_,_,h4⟩ | ⟨_,_,_,h4⟩
  ·exact ⟨p + 2,by omega,h4,.inl ⟨h1,h2,rfl⟩⟩
  ·exact ⟨p + 1,by omega,h4,.inr ⟨h1,h2,rfl⟩⟩
  ·rw [h4] at hno;exact absurd (show (2:Int) = 0 from hno) (by decide)
  ·rw [h4] at hno;exact absurd (show (4:Int) = 0 from hno) (by decide)
 obtain ⟨L,hLn,hLT,hway⟩:=hway
 have hval:(if gk ≠ 2 ∨ gn < 0 then noR 4 L else if (zs.length:Int) - L < gn then noR 2 L else (⟨0,.mk 8 nx ((zs.drop L).take gn.toNat) lx (dropE [strLen] dx),eolT zs (L + gn.toNat)⟩:Rt)) = RR:=by
  rw [← hRR];unfold rdaT;rw [hLT,hG];exact (if_neg (fun h=>h rfl)).symm
 have HRR:=lH hval
 have HLN:=lH hLn
 have HZL:=lH hzl
 have HSM:=lH hsm
 clear hc hno hLT hok hdl hokE hlo hG hbt hval hRR
 obtain ⟨a,ha⟩:∃ a,peekZ zs (p:Int) = a:=⟨_,rfl⟩
 obtain ⟨b,hb⟩:∃ b,peekZ zs ((p + 1:Nat):Int) = b:=⟨_,rfl⟩
 rw [ha] at hway HP0
 rw [hb] at hway HP1
 clear ha hb
 rcases hway with ⟨rfl,rfl,hL⟩ | ⟨h1,rfl,hL⟩
 all_goals first
  | (have ew:IntKind.i64.wrap ((p:Int) + 2) = (L:Int):=by (rw [hL,IntWalk.i64_in _ (by omega)];omega)
     clear hL hzl hsm hLn
     go_enter Tryz.func34,Tryz.ntmps34
     go_upto_region 2 with fail
     rw [HW1.out,HW0.out]
     go_upto_region 3 with (first
     | (go_at_call 57;(with_reducible refine (HP0.out _ HS.out).mono ?_);(rintro r wn ⟨rfl,hsn⟩);clear HS;have HS:=lH hsn;clear hsn)
     | (go_at_call 57;(with_reducible refine (HP1.out _ HS.out).mono ?_);(rintro r wn ⟨rfl,hsn⟩);clear HS;have HS:=lH hsn;clear hsn))
     have c1:=HS.out.px.c1
     have f1:=HS.out.px.ld.fr 1
     have hsk:=HS.out.seek L HLN.out
     go_upto_region 8 with fail
     obtain ⟨wv,hwv⟩:∃ wv,wn.setCell ⟨m,1,none⟩ (.int .i64 (L:Int)) = wv:=⟨_,rfl⟩
     rw [hwv] at hsk
     rw [hwv]
     clear HS c1 f1 ew
     have HS:=lH hsk
     clear hsk hwv
   )
  | (have ew:IntKind.i64.wrap ((p:Int) + 1) = (L:Int):=by (rw [hL,IntWalk.i64_in _ (by omega)];omega)
     clear hL hzl hsm hLn h1
     go_enter Tryz.func34,Tryz.ntmps34
     go_upto_region 2 with fail
     rw [HW1.out,HW0.out]
     go_upto_region 5 with (first
     | (go_at_call 57;(with_reducible refine (HP0.out _ HS.out).mono ?_);(rintro r wn ⟨rfl,hsn⟩);clear HS;have HS:=lH hsn;clear hsn)
     | (go_at_call 57;(with_reducible refine (HP1.out _ HS.out).mono ?_);(rintro r wn ⟨rfl,hsn⟩);clear HS;have HS:=lH hsn;clear hsn))
     have c1:=HS.out.px.c1
     have f1:=HS.out.px.ld.fr 1
     have hsk:=HS.out.seek L HLN.out
     go_upto_region 8 with fail
     obtain ⟨wv,hwv⟩:∃ wv,wn.setCell ⟨m,1,none⟩ (.int .i64 (L:Int)) = wv:=⟨_,rfl⟩
     rw [hwv] at hsk
     rw [hwv]
     clear HS c1 f1 ew
     have HS:=lH hsk
     clear hsk hwv
   )
 all_goals
  have q0:=cell_of_row wv w.heap.size 0 _ _ (0,0) HS.out.bx
  have q1:=cell_of_row wv w.heap.size 1 _ _ (0,0) HS.out.bx
  have q2:=cell_of_row wv w.heap.size 2 _ _ (0,0) HS.out.bx
  have q3:=cell_of_row wv w.heap.size 3 _ _ (0,0) HS.out.bx
  have q4:=cell_of_row wv w.heap.size 4 _ _ (0,0) HS.out.bx
  go_upto_region 9 with (first
   | (go_at_call 58;refine (HGT.out _ _ HS.out).mono ?_;(rintro r w5 ⟨g0,g1,g2,g3,g4,hrr,hg5,hb5⟩);subst hrr;(unfold ObR at hg5);(obtain ⟨rfl,rfl,-,-,⟨G2,l2,e2',rfl,-⟩,⟨G3,e3',rfl,-⟩,⟨G4,e4',rfl,-⟩⟩:=hg5);have HS5:=lH (HS.out.low hb5);clear hb5))
  have hb6:=(Below.refl w5.heap.size w5).alloc (Nat.le_refl _) (.cells #[.int .i64 gk,.int .i64 gn,.slice G2 l2 e2',.slice G3 gl.len e3',.slice G4 gd.len e4'] 27)
  have hn6:=heap_alloc_new w5 (.cells #[.int .i64 gk,.int .i64 gn,.slice G2 l2 e2',.slice G3 gl.len e3',.slice G4 gd.len e4'] 27)
  obtain ⟨w6,hw6⟩:∃ w6,w5.alloc (.cells #[.int .i64 gk,.int .i64 gn,.slice G2 l2 e2',.slice G3 gl.len e3',.slice G4 gd.len e4'] 27) = w6:=⟨_,rfl⟩
  rw [hw6] at hb6 hn6
  rw [hw6]
  have HS6:=lH (HS5.out.low hb6)
  have HG6:Hid (w.heap.size + 2 ≤ w5.heap.size):=lH HS5.out.sz
  obtain ⟨bg,hbg⟩:∃ bg,w5.heap.size = bg:=⟨_,rfl⟩
  rw [hbg] at hn6 HG6
  rw [hbg]
  have HN6:=lH hn6
  have i0:=cell_of_row w6 bg 0 _ _ (0,0) hn6
  have i1:=cell_of_row w6 bg 1 _ _ (0,0) hn6
  clear q0 q1 q2 q3 q4 hb6 hn6 hw6 hbg
  by_cases hk:gk = 2
  ·subst hk
   by_cases hv:gn < 0
   ·have hrr:RR = noR 4 L:=by rw [← HRR.out,if_pos (.inr hv)]
    subst hrr
    have g1:decide (gn < 0) = true:=decide_eq_true hv
    clear hv
    go_upto_region 10 with fail
    have HF:=lH (RdS.nul HS6.out)
    obtain ⟨r0,r1,r2,r3,r4,r5⟩:=zero_cells (RdS.rs HS6.out)
    go_wp2_with fail
    refine bodyPost_ret (results_cell_row_tmp rfl _ _ (w.heap.size + 1) 27 _ (0,0) _ rfl HF.out.row Tryz.underlying27 rfl (by kernel_rfl) _ rfl) rfl ?_
    exact ⟨_,_,_,_,_,rfl,HF.out.ob,HF.out.px,HF.out.on⟩
   ·have g1:decide (gn < 0) = false:=decide_eq_false hv
    obtain ⟨V,rfl⟩:∃ V:Nat,gn = (V:Int):=⟨gn.toNat,by omega⟩
    clear hv
    have c0:=HS6.out.px.ld.c0
    have c1:=HS6.out.px.c1
    have e11:IntKind.i64.wrap ((n:Int) - (L:Int)) = (n:Int) - (L:Int):=IntWalk.i64_in _ (by have:=HLN.out;have:=HSM.out;omega)
    by_cases hlen:(zs.length:Int) - L < V
    ·have hrr:RR = noR 2 L:=by rw [← HRR.out,if_neg (fun h=>h.elim (fun h=>h rfl) (fun h=>by omega)),if_pos hlen]
     subst hrr
     have g2:decide ((n:Int) - (L:Int) < (V:Int)) = true:=decide_eq_true (by rw [← HZL.out];exact hlen)
     clear hlen
     go_upto_region 11 with fail
     go_quiet (fail)
     have HF:=lH (RdS.nul (HS6.out.drewN nq))
     obtain ⟨r0,r1,r2,r3,r4,r5⟩:=zero_cells (RdS.rs (HS6.out.drewN nq))
     go_wp2_with fail
     refine bodyPost_ret (results_cell_row_tmp rfl _ _ (w.heap.size + 1) 27 _ (0,0) _ rfl HF.out.row Tryz.underlying27 rfl (by kernel_rfl) _ rfl) rfl ?_
     exact ⟨_,_,_,_,_,rfl,HF.out.ob,HF.out.px,HF.out.on⟩
    ·
     obtain ⟨M,hM⟩:∃ M:Nat,L + V = M:=⟨_,rfl⟩
     have HMM:=lH hM
     have hrr:RR = ⟨0,.mk 8 nx ((zs.drop L).take V) lx (dropE [strLen] dx),eolT zs M⟩:=by rw [← hM];rw [← HRR.out,if_neg (fun h=>h.elim (fun h=>h rfl) (fun h=>by omega)),if_neg hlen,Int.toNat_natCast]
     subst hrr
     have g2:decide ((n:Int) - (L:Int) < (V:Int)) = false:=decide_eq_false (by rw [← HZL.out];exact hlen)
     have hLV:M ≤ n:=by have:=HZL.out;omega
     have HLV:=lH hLV
     clear hlen hLV hM
     go_upto_region 11 with fail
     go_quiet (fail)
     have hsq:=HS6.out.drewN nq
     have hn6:=HN6.out
     have hn6:(w6.drewN nq).heap[bg]? = some (.cells #[.int .i64 2,.int .i64 V,.slice G2 l2 e2',.slice G3 gl.len e3',.slice G4 gd.len e4'] 27 (0,0)):=hn6
     obtain ⟨wq,hwq⟩:∃ wq,w6.drewN nq = wq:=⟨_,rfl⟩
     rw [hwq] at hsq hn6
     rw [hwq]
     clear c0 c1 e11 g1 g2 i0 i1 hwq HS6 HN6
     have HSQ:=lH hsq
     have HNQ:=lH hn6
     have q0:=cell_of_row wq w.heap.size 0 _ _ (0,0) hsq.bx
     have q1:=cell_of_row wq w.heap.size 1 _ _ (0,0) hsq.bx
     have q2:=cell_of_row wq w.heap.size 2 _ _ (0,0) hsq.bx
     have q3:=cell_of_row wq w.heap.size 3 _ _ (0,0) hsq.bx
     have q4:=cell_of_row wq w.heap.size 4 _ _ (0,0) hsq.bx
     have hb7:=(Below.refl wq.heap.size wq).alloc (Nat.le_refl _) (.cells #[.string strLen] 9)
     have hk7:=keys_one wq strLen
     obtain ⟨w7,hw7⟩:∃ w7,wq.alloc (.cells #[.string strLen] 9) = w7:=⟨_,rfl⟩
     rw [hw7] at hb7 hk7
     have HB7:=lH hb7
     have HK7:=lH hk7
     unfold strLen at hw7
     have HW7:=lH hw7
     clear hsq hn6 hb7 hk7 hw7
     go_upto_region 14 with (first
      | (go_at_call 59;rw [HW7.out];refine (HDR.out _ wq w7 _ _ HSQ.out HB7.out HK7.out).mono ?_;(rintro r w8 ⟨f0,f1,f2,f3,f4,hrr,hob8,hb8⟩);subst hrr;(obtain ⟨kf,nf,F2,l2f,x2f,F3,l3f,x3f,F4,l4f,x4f,rfl,rfl,rfl,rfl,rfl⟩:=hob8.form);have HOB8:=lH hob8;have HB8:=lH hb8;clear hob8 hb8))
     have hb9:=(Below.refl w8.heap.size w8).alloc (Nat.le_refl _) (.cells #[.int .i64 kf,.int .i64 nf,.slice F2 l2f x2f,.slice F3 l3f x3f,.slice F4 l4f x4f] 27)
     have hn9:=heap_alloc_new w8 (.cells #[.int .i64 kf,.int .i64 nf,.slice F2 l2f x2f,.slice F3 l3f x3f,.slice F4 l4f x4f] 27)
     obtain ⟨w9,hw9⟩:∃ w9,w8.alloc (.cells #[.int .i64 kf,.int .i64 nf,.slice F2 l2f x2f,.slice F3 l3f x3f,.slice F4 l4f x4f] 27) = w9:=⟨_,rfl⟩
     rw [hw9] at hb9 hn9
     rw [hw9]
     have hbq8:=HB7.out.trans (HB8.out.mono HB7.out.size)
     have hbq9:=hbq8.trans (hb9.mono hbq8.size)
     have hsz2:=HSQ.out.sz
     have hbgq:=row_lt _ _ _ HNQ.out
     have hs78:=HB8.out.size
     have hs7:=HB7.out.size
     have HT9:=lH (show RdT w w9 m A n c d zs L (.mk 7 nx bx lx dx) (.int .i64 k9) (.int .i64 n9) (.slice A29 m29 c29) (.slice A39 m39 c39) (.slice A49 m49 c49) bg w8.heap.size [.int .i64 2,.int .i64 V,.slice G2 l2 e2',.slice G3 gl.len e3',.slice G4 gd.len e4'] (.mk 7 nx bx lx (dropE [strLen] dx)) (.int .i64 kf) (.int .i64 nf) (.slice F2 l2f x2f) (.slice F3 l3f x3f) (.slice F4 l4f x4f) [.int .i64 kf,.int .i64 nf,.slice F2 l2f x2f,.slice F3 l3f x3f,.slice F4 l4f x4f] from
      ⟨HSQ.out.low hbq9,(hbq9.block _ hbgq).trans HNQ.out,hn9,ObR.keep (fun y hy=>hb9.block y hy.2) (fun y hy=>⟨by have:=hy.1;omega,Nat.ne_of_lt hy.2,Nat.lt_of_lt_of_le hy.2 hb9.size⟩) _ HOB8.out,HG6.out,by omega⟩)
     obtain ⟨bt,hbt⟩:∃ bt,w8.heap.size = bt:=⟨_,rfl⟩
     rw [hbt] at HT9
     rw [hbt]
     clear hb9 hn9 hw9 hbq8 hbq9 hsz2 hbgq hs78 hs7 hbt HB7 HK7 HW7 HOB8 HB8 HSQ HNQ q0 q1 q2 q3 q4
     have hrow:=HT9.out.tb
     have t0:=cell_of_row w9 bt 0 _ _ (0,0) hrow
     have f0:=HT9.out.fr 0
     go_upto_region 15 with fail
     have ht10:=HT9.out.setT 0 (.int .i64 8)
     obtain ⟨wA,hwA⟩:∃ wA,w9.setCell ⟨bt,0,none⟩ (.int .i64 8) = wA:=⟨_,rfl⟩
     rw [hwA] at ht10
     rw [hwA]
     dsimp only [List.set] at ht10
     have HTA:=lH (ht10.low (Below.refl _ _).drew)
     clear HT9 hrow t0 f0 hwA ht10
     have hcap:=HTA.out.s.px.bt.cap
     have hV:M - L = V:=by have:=HMM.out;omega
     have hsl0:=fun W=>run_cut (P:=Tryz.prog) W 23 5 Tryz.underlying23 (fun w=>by kernel_rfl) A n c L M (by have:=HMM.out;omega) (by have:=HLV.out;omega)
     rw [hV] at hsl0
     have hcp0:=fun W (hW:RX W m A n c d zs L)=>refCopy (cutA A c L) V (c - L) ((zs.drop L).take V) W ((hW.bt.cut (by have:=HLV.out;have:=HMM.out;omega)).more (Nat.le_of_lt hW.lt)) (by have:=HLV.out;have:=HMM.out;have:=HSM.out;omega)
     obtain ⟨CA,hCA⟩:∃ CA,cutA A c L = CA:=⟨_,rfl⟩
     obtain ⟨CC,hCC⟩:∃ CC,c - L = CC:=⟨_,rfl⟩
     obtain ⟨Z,hZ⟩:∃ Z,(zs.drop L).take V = Z:=⟨_,rfl⟩
     rw [hCA,hCC] at hsl0
     rw [hCA,hCC,hZ] at hcp0
     have HZZ:=lH hZ
     have HCP:=lH hcp0
     have hsl:=hsl0
     have ew:IntKind.i64.wrap ((L:Int) + (V:Int)) = (M:Int):=by rw [IntWalk.i64_in _ (by have:=HLV.out;have:=HMM.out;have:=HSM.out;omega)];have:=HMM.out;omega
     clear hcap hV hsl0 hcp0 hCA hCC hZ
     refine wp_region_heldR (fun W=>W.cell? ⟨m,0,none⟩ = some (.slice A n c) ∧ W.cell? ⟨m,1,none⟩ = some (.int .i64 (L:Int)) ∧ W.cell? ⟨bg,1,none⟩ = some (.int .i64 (V:Int))) 21 (by kernel_rfl) ⟨HTA.out.s.px.ld.c0,HTA.out.s.px.c1,cell_of_row _ bg 1 _ _ (0,0) HTA.out.gb⟩ (fun hHeld=>?_)
     refine tkG 0 (v:=?_) ?_ ?_;rotate_left;focus (intro wS hSw;obtain ⟨s0,s1,s2⟩:=hSw;go_simp;(try simp only [s0,s1,s2,ew,hsl]);try with_reducible rfl)
     try simp only [Act.put,aS2,aS0,aS1]
     refine tkG 1 (v:=?_) ?_ ?_;rotate_left;focus (intro wS hSw;obtain ⟨s0,s1,s2⟩:=hSw;go_simp;(try simp only [s0,s1,s2,ew,hsl]);try with_reducible rfl)
     try simp only [Act.put,aS2,aS0,aS1]
     refine tkG 2 (v:=?_) ?_ ?_;rotate_left;focus (intro wS hSw;obtain ⟨s0,s1,s2⟩:=hSw;go_simp;(try simp only [s0,s1,s2,ew,hsl]);try with_reducible rfl)
     try simp only [Act.put,aS2,aS0,aS1]
     refine tkG 3 (v:=?_) ?_ ?_;rotate_left;focus (intro wS hSw;obtain ⟨s0,s1,s2⟩:=hSw;go_simp;(try simp only [s0,s1,s2,ew,hsl]);try with_reducible rfl)
     try simp only [Act.put,aS2,aS0,aS1]
     refine tkG 4 (v:=?_) ?_ ?_;rotate_left;focus (intro wS hSw;obtain ⟨s0,s1,s2⟩:=hSw;go_simp;(try simp only [s0,s1,s2,ew,hsl]);try with_reducible rfl)
     try simp only [Act.put,aS2,aS0,aS1]
     refine tkG 5 (v:=?_) ?_ ?_;rotate_left;focus (intro wS hSw;obtain ⟨s0,s1,s2⟩:=hSw;go_simp;(try simp only [s0,s1,s2,ew,hsl]);try with_reducible rfl)
     try simp only [Act.put,aS2,aS0,aS1]
     refine tkG 6 (v:=?_) ?_ ?_;rotate_left;focus (intro wS hSw;obtain ⟨s0,s1,s2⟩:=hSw;go_simp;(try simp only [s0,s1,s2,ew,hsl]);try with_reducible rfl)
     try simp only [Act.put,aS2,aS0,aS1]
     refine tkG 7 (v:=?_) ?_ ?_;rotate_left;focus (intro wS hSw;obtain ⟨s0,s1,s2⟩:=hSw;go_simp;(try simp only [s0,s1,s2,ew,hsl]);try with_reducible rfl)
     try simp only [Act.put,aS2,aS0,aS1]
     refine tkG 8 (v:=?_) ?_ ?_;rotate_left;focus (intro wS hSw;obtain ⟨s0,s1,s2⟩:=hSw;go_simp;(try simp only [s0,s1,s2,ew,hsl]);try with_reducible rfl)
     try simp only [Act.put,aS2,aS0,aS1]
     refine tkG 9 (v:=?_) ?_ ?_;rotate_left;focus (intro wS hSw;obtain ⟨s0,s1,s2⟩:=hSw;go_simp;(try simp only [s0,s1,s2,ew,hsl]);try with_reducible rfl)
     try simp only [Act.put,aS2,aS0,aS1]
     refine tkG 10 (v:=?_) ?_ ?_;rotate_left;focus (intro wS hSw;obtain ⟨s0,s1,s2⟩:=hSw;go_simp;(try simp only [s0,s1,s2,ew,hsl]);try with_reducible rfl)
     try simp only [Act.put,aS2,aS0,aS1]
     refine tkG 11 (v:=?_) ?_ ?_;rotate_left;focus (intro wS hSw;obtain ⟨s0,s1,s2⟩:=hSw;go_simp;(try simp only [s0,s1,s2,ew,hsl]);try with_reducible rfl)
     try simp only [Act.put,aS2,aS0,aS1]
     refine tkG 12 (v:=?_) ?_ ?_;rotate_left;focus (intro wS hSw;obtain ⟨s0,s1,s2⟩:=hSw;go_simp;(try simp only [s0,s1,s2,ew,hsl]);try with_reducible rfl)
     try simp only [Act.put,aS2,aS0,aS1]
     refine tkG 13 (v:=?_) ?_ ?_;rotate_left;focus (intro wS hSw;obtain ⟨s0,s1,s2⟩:=hSw;go_simp;(try simp only [s0,s1,s2,ew,hsl]);try with_reducible rfl)
     try simp only [Act.put,aS2,aS0,aS1]
     refine tkG 14 (v:=?_) ?_ ?_;rotate_left;focus (intro wS hSw;obtain ⟨s0,s1,s2⟩:=hSw;go_simp;(try simp only [s0,s1,s2,ew,hsl]);try with_reducible rfl)
     try simp only [Act.put,aS2,aS0,aS1]
     refine tkG 15 (v:=?_) ?_ ?_;rotate_left;focus (intro wS hSw;obtain ⟨s0,s1,s2⟩:=hSw;go_simp;(try simp only [s0,s1,s2,ew,hsl]);try with_reducible rfl)
     try simp only [Act.put,aS2,aS0,aS1]
     refine tkG 16 (v:=?_) ?_ ?_;rotate_left;focus (intro wS hSw;obtain ⟨s0,s1,s2⟩:=hSw;go_simp;(try simp only [s0,s1,s2,ew,hsl]);try with_reducible rfl)
     try simp only [Act.put,aS2,aS0,aS1]
     refine tkG 17 (v:=?_) ?_ ?_;rotate_left;focus (intro wS hSw;obtain ⟨s0,s1,s2⟩:=hSw;go_simp;(try simp only [s0,s1,s2,ew,hsl]);try with_reducible rfl)
     try simp only [Act.put,aS2,aS0,aS1]
     refine tkG 18 (v:=?_) ?_ ?_;rotate_left;focus (intro wS hSw;obtain ⟨s0,s1,s2⟩:=hSw;go_simp;(try simp only [s0,s1,s2,ew,hsl]);try with_reducible rfl)
     try simp only [Act.put,aS2,aS0,aS1]
     refine wpAnyR_step 19 rfl (by kernel_rfl) (fun K hK=>?_)
     go_simp
     go_at_call 60
     refine (HCP.out _ HTA.out.s.px).mono ?_
     rintro r wB ⟨vB,rfl,hmB,hbB⟩
     obtain ⟨AZ,CZ,rfl,hbz⟩:=hmB.bytS
     have htB:=HTA.out.low hbB
     have hst:=And.intro htB.s.px.ld.c0 (And.intro htB.s.px.c1 (cell_of_row _ bg 1 _ _ (0,0) htB.gb))
     have p0:=cell_of_row _ bt 2 _ _ (0,0) htB.tb
     have fz:=htB.fr 2
     have HTB:=lH htB
     have HBZ:=lH hbz
     have HZA:Hid (w.heap.size + 2 ≤ wA.drew.heap.size ∧ bt < wA.drew.heap.size):=lH ⟨HTA.out.s.sz,row_lt _ _ _ HTA.out.tb⟩
     clear htB hmB hbB hbz hsl
     go_wp2_with fail
     refine hK.out _ _ hst (fun hHeld=>?_)
     clear hK K
     try simp only [Act.put,aS2,aS0,aS1]
     refine tkG 20 (v:=?_) ?_ ?_;rotate_left;focus (intro wS hSw;obtain ⟨s0,s1,s2⟩:=hSw;go_simp;(try simp only [s0,s1,s2,ew,hsl]);try with_reducible rfl)
     try simp only [Act.put,aS2,aS0,aS1]
     refine wpAnyR_last rfl (by kernel_rfl) (by kernel_rfl) (fun K hK=>?_)
     go_simp
     refine hK.out _ _ ?_
     clear hK K
     refine NoPanic.normal ?_
     have htC:=HTB.out.setT 2 (.slice AZ V CZ)
     dsimp only [List.set] at htC
     obtain ⟨wC,hwC⟩:∃ wC,wB.setCell ⟨bt,2,none⟩ (.slice AZ V CZ) = wC:=⟨_,rfl⟩
     have hbc:BytS wC (fun y=>w.heap.size + 2 ≤ y ∧ y ≠ bt ∧ y < wC.heap.size) AZ V CZ Z:=HBZ.out.keep (fun y hy=>by rw [← hwC];exact set_blk9 wB bt 2 y _ (by have:=HZA.out;omega)) (fun y hy=>⟨by have:=HZA.out;omega,by have:=HZA.out;omega,by rw [← hwC];simp [World.setCell];exact hy.2⟩)
     rw [hwC] at htC
     rw [hwC]
     have HBC:=lH (hbc.keep (w':=wC.drew) (fun _ _=>rfl) (fun _ h=>h))
     have HTC:=lH (htC.low (Below.refl _ _).drew)
     clear hwC htC hbc p0 fz hst HTB HBZ HZA HTA
     have hst:=And.intro HTC.out.s.px.ld.c0 (And.intro HTC.out.s.px.c1 (cell_of_row _ bg 1 _ _ (0,0) HTC.out.gb))
     go_upto_region 16 with fail
     refine wp_region_heldR (fun W=>W.cell? ⟨m,0,none⟩ = some (.slice A n c) ∧ W.cell? ⟨m,1,none⟩ = some (.int .i64 (L:Int)) ∧ W.cell? ⟨bg,1,none⟩ = some (.int .i64 (V:Int))) 12 (by kernel_rfl) hst (fun hHeld=>?_)
     have hsl:True:=trivial
     refine tkG 0 (v:=?_) ?_ ?_;rotate_left;focus (intro wS hSw;obtain ⟨s0,s1,s2⟩:=hSw;go_simp;(try simp only [s0,s1,s2,ew,hsl]);try with_reducible rfl)
     try simp only [Act.put,aS2,aS0,aS1]
     refine tkG 1 (v:=?_) ?_ ?_;rotate_left;focus (intro wS hSw;obtain ⟨s0,s1,s2⟩:=hSw;go_simp;(try simp only [s0,s1,s2,ew,hsl]);try with_reducible rfl)
     try simp only [Act.put,aS2,aS0,aS1]
     refine tkG 2 (v:=?_) ?_ ?_;rotate_left;focus (intro wS hSw;obtain ⟨s0,s1,s2⟩:=hSw;go_simp;(try simp only [s0,s1,s2,ew,hsl]);try with_reducible rfl)
     try simp only [Act.put,aS2,aS0,aS1]
     refine tkG 3 (v:=?_) ?_ ?_;rotate_left;focus (intro wS hSw;obtain ⟨s0,s1,s2⟩:=hSw;go_simp;(try simp only [s0,s1,s2,ew,hsl]);try with_reducible rfl)
     try simp only [Act.put,aS2,aS0,aS1]
     refine tkG 4 (v:=?_) ?_ ?_;rotate_left;focus (intro wS hSw;obtain ⟨s0,s1,s2⟩:=hSw;go_simp;(try simp only [s0,s1,s2,ew,hsl]);try with_reducible rfl)
     try simp only [Act.put,aS2,aS0,aS1]
     refine tkG 5 (v:=?_) ?_ ?_;rotate_left;focus (intro wS hSw;obtain ⟨s0,s1,s2⟩:=hSw;go_simp;(try simp only [s0,s1,s2,ew,hsl]);try with_reducible rfl)
     try simp only [Act.put,aS2,aS0,aS1]
     refine tkG 6 (v:=?_) ?_ ?_;rotate_left;focus (intro wS hSw;obtain ⟨s0,s1,s2⟩:=hSw;go_simp;(try simp only [s0,s1,s2,ew,hsl]);try with_reducible rfl)
     try simp only [Act.put,aS2,aS0,aS1]
     refine tkG 7 (v:=?_) ?_ ?_;rotate_left;focus (intro wS hSw;obtain ⟨s0,s1,s2⟩:=hSw;go_simp;(try simp only [s0,s1,s2,ew,hsl]);try with_reducible rfl)
     try simp only [Act.put,aS2,aS0,aS1]
     refine tkG 8 (v:=?_) ?_ ?_;rotate_left;focus (intro wS hSw;obtain ⟨s0,s1,s2⟩:=hSw;go_simp;(try simp only [s0,s1,s2,ew,hsl]);try with_reducible rfl)
     try simp only [Act.put,aS2,aS0,aS1]
     refine wpAnyR_step 9 rfl (by kernel_rfl) (fun K hK=>?_)
     go_simp
     refine hK.out _ _ hst (fun hHeld=>?_)
     clear hK K
     try simp only [Act.put,aS2,aS0,aS1]
     refine wpAnyR_step 10 rfl (by kernel_rfl) (fun K hK=>?_)
     go_simp
     refine hK.out _ _ hst (fun hHeld=>?_)
     clear hK K
     try simp only [Act.put,aS2,aS0,aS1]
     refine wpAnyR_step 11 rfl (by kernel_rfl) (fun K hK=>?_)
     go_simp
     refine hK.out _ _ hst (fun hHeld=>?_)
     clear hK K
     try simp only [Act.put,aS2,aS0,aS1]
     have c1:=HTC.out.s.px.c1
     have f1:=HTC.out.s.px.ld.fr 1
     refine wpAnyR_last rfl (by kernel_rfl) (by kernel_rfl) (fun K hK=>?_)
     go_simp
     refine hK.out _ _ ?_
     clear hK K
     refine NoPanic.normal ?_
     have htD:=HTC.out.seek M HLV.out
     obtain ⟨wD,hwD⟩:∃ wD,(wC.setCell ⟨m,1,none⟩ (.int .i64 (M:Int))).drew = wD:=⟨_,rfl⟩
     have hbd:BytS wD (fun y=>w.heap.size + 2 ≤ y ∧ y ≠ bt ∧ y < wD.heap.size) AZ V CZ Z:=HBC.out.keep (fun y hy=>by rw [← hwD];exact set_blk9 wC m 1 y _ (by have:=HTC.out.s.lt;omega)) (fun y hy=>⟨hy.1,hy.2.1,by rw [← hwD];simp [World.setCell];exact hy.2.2⟩)
     have htD:RdT w (wC.setCell ⟨m,1,none⟩ (.int .i64 (M:Int))).drew m A n c d zs M (.mk 7 nx bx lx dx) (.int .i64 k9) (.int .i64 n9) (.slice A29 m29 c29) (.slice A39 m39 c39) (.slice A49 m49 c49) bg bt [.int .i64 2,.int .i64 V,.slice G2 l2 e2',.slice G3 gl.len e3',.slice G4 gd.len e4'] (.mk 7 nx bx lx (dropE [strLen] dx)) (.int .i64 kf) (.int .i64 nf) (.slice F2 l2f x2f) (.slice F3 l3f x3f) (.slice F4 l4f x4f) [.int .i64 8,.int .i64 nf,.slice AZ V CZ,.slice F3 l3f x3f,.slice F4 l4f x4f]:=htD
     rw [hwD] at htD
     rw [hwD]
     have heo:=fun W (hW:RX W m A n c d zs M)=>reolC m n c M m _ _ A zs W hW.ld hW.bt (Nat.le_refl _) (by have:=HSM.out;omega) (by have:=HSM.out;have:=HLV.out;omega)
     rw [eolT_eolZ] at heo
     have hel:=eolT_le zs M (by rw [HZL.out];exact HLV.out)
     rw [HZL.out] at hel
     have HEO:=lH heo
     have HEL:=lH hel
     obtain ⟨QE,hQE⟩:∃ QE,eolT zs M = QE:=⟨_,rfl⟩
     rw [hQE] at HEO HEL
     have HQE:=lH hQE
     have HTD:=lH htD
     have HBD:=lH hbd
     clear htD hbd hwD heo hel hQE hst c1 f1 ew hsl HTC HBC
     go_upto_region 18 with (first
      | (go_at_call 61;refine (HEO.out _ HTD.out.s.px).mono ?_;(rintro r wE ⟨rfl,hlE,hoE⟩);have HTE:=lH (HTD.out.only (HTD.out.s.px.moved hlE hoE HEL.out) hoE);have HOE:=lH hoE;clear hlE hoE))
     have hbe:BytS wE (fun y=>(w.heap.size ≤ y ∧ y ≠ w.heap.size + 1) ∧ y < wE.heap.size) AZ V CZ Z:=HBD.out.keep (fun y hy=>HOE.out.block y hy.2.2 (by have:=HTD.out.s.lt;omega)) (fun y hy=>⟨⟨by omega,by omega⟩,Nat.lt_of_lt_of_le hy.2.2 HOE.out.size⟩)
     have HF:=lH (RsB.finR HTE.out.s.rs (Nat.le_succ _) (ob_stm HTE.out.ot (fun _ _=>rfl) (fun y hy=>⟨⟨by omega,by omega⟩,hy.2.2⟩) hbe) HTE.out.s.px HTE.out.s.on HTE.out.s.lt)
     have o0:=cell_of_row wE bt 0 _ _ (0,0) HTE.out.tb
     have o1:=cell_of_row wE bt 1 _ _ (0,0) HTE.out.tb
     have o2:=cell_of_row wE bt 2 _ _ (0,0) HTE.out.tb
     have o3:=cell_of_row wE bt 3 _ _ (0,0) HTE.out.tb
     have o4:=cell_of_row wE bt 4 _ _ (0,0) HTE.out.tb
     obtain ⟨r0,r1,r2,r3,r4,r5⟩:=zero_cells HTE.out.s.rs
     clear hbe
     go_wp2_with fail
     have hzz:=HZZ.out
     have hqe:=HQE.out
     subst hzz hqe
     refine bodyPost_ret (results_cell_row_tmp rfl _ _ (w.heap.size + 1) 27 _ (0,0) _ rfl HF.out.row Tryz.underlying27 rfl (by kernel_rfl) _ rfl) rfl ?_
     exact ⟨_,_,_,_,_,rfl,HF.out.ob,HF.out.px,HF.out.on⟩
  ·have hrr:RR = noR 4 L:=by rw [← HRR.out,if_pos (.inl hk)]
   subst hrr
   have g1:(gk != 2) = true:=by rw [bne,beq_eq_false_iff_ne.2 hk];rfl
   clear hk
   go_upto_region 10 with fail
   have HF:=lH (RdS.nul HS6.out)
   obtain ⟨r0,r1,r2,r3,r4,r5⟩:=zero_cells (RdS.rs HS6.out)
   go_wp2_with fail
   refine bodyPost_ret (results_cell_row_tmp rfl _ _ (w.heap.size + 1) 27 _ (0,0) _ rfl HF.out.row Tryz.underlying27 rfl (by kernel_rfl) _ rfl) rfl ?_
   exact ⟨_,_,_,_,_,rfl,HF.out.ob,HF.out.px,HF.out.on⟩
theorem rdataC {w:World} {m n c d p:Nat} {A:Option Addr} {zs:List Int} (x:RX w m A n c d zs p) (nx:Int) (bx:List Int) (lx:Obs) (dx:Ens) (S:Nat → Prop) (c0 c1 c2 c3 c4:Value)
  (hob:ObR w S (.mk 7 nx bx lx dx) c0 c1 c2 c3 c4) (hS:∀ y,S y → y < w.heap.size ∧ y ≠ m) (hok:okO (.mk 7 nx bx lx dx)) (hdl:dx.len ≤ 90000000) :
  Calls Tryz.prog 34 #[.pointer (some ⟨m,0,none⟩),.agg #[c0,c1,c2,c3,c4]] w (RvP m A n c d zs w (rdaT zs p (.mk 7 nx bx lx dx))):=by
 by_cases h:(lineT zs p).1 = 0
 ·exact rdataYes x nx bx lx dx S c0 c1 c2 c3 c4 hob hS hok hdl h
 ·exact rdataNo x nx bx lx dx S c0 c1 c2 c3 c4 hob hS h
end
section
open Go.RowKit
def pdA:List Int:=[52,32,48,32,111,98,106,60,60,47,76,101,110,103,116,104,32]
def pdB:List Int:=[62,62,115,116,114,101,97,109]
def pdC:List Int:=[101,110,100,115,116,114,101,97,109,10,101,110,100,111,98,106]
def lenD (n:Int):Ob:=.mk 7 0 [] .nil (.cons strLen (.mk 2 n [] .nil .nil) .nil)
theorem data_head (zs R:List Int) (n:Int) (hn:-2147483647 ≤ n ∧ n ≤ 2147483647) (h:zs.drop 0 = pdA ++ (zsB (textB n true) ++ (pdB ++ R))) (F d:Nat) :
  headT zs 0 = (4,0,7) ∧ parF zs (F + 5) .val (d + 1) 7 = ⟨0,lenD n,17 + (textB n true).length + 2⟩ ∧ zs.drop (17 + (textB n true).length + 2) = [115,116,114,101,97,109] ++ R:=by
 have hi:inB n = true:=inB_true (by omega) (by omega)
 obtain ⟨T,hT⟩:∃ T,zsB (textB n true) = T:=⟨_,rfl⟩
 have t0:=at_num (zs:=zs) (p:=0) (n:=4) (whole:=true) (rest:=(32 :: 48 :: 32 :: 111 :: 98 :: 106 :: 60 :: 60 :: 47 :: 76 :: 101 :: 110 :: 103 :: 116 :: 104 :: 32 :: (T ++ (pdB ++ R)))) (by decide) (fun _=>by decide) rfl (by rw [h,hT];rfl)
 have e4:(textB 4 true).length = 1:=by decide +kernel
 rw [e4] at t0
 have t1:=at_wh t0.2.2 rfl
 have t2:=at_num (n:=0) (whole:=true) (rest:=(32 :: 111 :: 98 :: 106 :: 60 :: 60 :: 47 :: 76 :: 101 :: 110 :: 103 :: 116 :: 104 :: 32 :: (T ++ (pdB ++ R)))) (by decide) (fun _=>by decide) rfl (show zs.drop (0 + 1 + 1) = zsB (textB 0 true) ++ _ from t1.2.2)
 have e0:(textB 0 true).length = 1:=by decide +kernel
 rw [e0] at t2
 have t3:=at_wh t2.2.2 rfl
 have t4:=at_word (c:=111) (w:=[98,106]) (rest:=(60 :: 60 :: 47 :: 76 :: 101 :: 110 :: 103 :: 116 :: 104 :: 32 :: (T ++ (pdB ++ R)))) (show zs.drop (0 + 1 + 1 + 1 + 1) = _ from t3.2.2) (by decide) (by decide) (by decide) (.inr ⟨_,_,rfl,by decide⟩)
 have t5:=at_left (rest:=(47 :: 76 :: 101 :: 110 :: 103 :: 116 :: 104 :: 32 :: (T ++ (pdB ++ R)))) t4.2.2
 have hlen:[76,101,110,103,116,104].length ≤ zs.length:=by
  rw [List.drop_zero] at h
  rw [h];simp [pdA]
 have t6:=at_name (bs:=[76,101,110,103,116,104]) (rest:=32 :: (T ++ (pdB ++ R))) (.inr ⟨_,_,rfl,by decide⟩) (show zs.drop _ = 47 :: (nmS [76,101,110,103,116,104] ++ _) from t5.2.2) (by decide) (by decide) hlen
 have t7:=at_wh t6.2.2 rfl
 have t8:=at_num (n:=n) (whole:=true) (rest:=pdB ++ R) hi (fun _=>hn) rfl (by rw [hT];exact t7.2.2)
 have t9:=at_right (rest:=[115,116,114,101,97,109] ++ R) t8.2.2
 have en:(nmS [76,101,110,103,116,104]).length = 6:=by decide +kernel
 simp only [en,List.length_cons,List.length_nil,Nat.zero_add,Nat.reduceAdd,if_true] at t0 t1 t2 t3 t4 t5 t6 t7 t8 t9
 obtain ⟨L,hL⟩:∃ L,(textB n true).length = L:=⟨_,rfl⟩
 rw [hL] at t8 t9 ⊢
 refine ⟨?_,?_,t9.2.2⟩
 ·have n1:numT zs 0 1 8388607 = (4,0,1):=by
   unfold numT;rw [t0.2.1];rfl
  have n2:numT zs 1 0 0 = (0,0,3):=by
   unfold numT;rw [t1.2.1,t2.2.1];rfl
  have n3:wrdT zs 3 strObj = (0,7):=by
   unfold wrdT;rw [t3.2.1,t4.2.1];rfl
  unfold headT
  rw [n1]
  dsimp only
  rw [n2]
  dsimp only
  rw [n3]
  rfl
 ·have v1:parF zs (F + 2 + 1) .val d 16 = ⟨0,.mk 2 n [] .nil .nil,17 + L⟩:=by
   rw [parF,t7.2.1,t8.2.1]
   rw [if_neg (fun h=>h rfl)]
   unfold begR
   dsimp only
   rw [if_pos rfl]
   unfold wholeR
   rw [if_neg (fun hh=>by
    have h2:=hh.2
    unfold refB at h2
    rw [t9.2.1] at h2
    simp at h2)]
  have d1:parF zs (F + 2 + 1) (.ens (.cons strLen (.mk 2 n [] .nil .nil) .nil)) d (17 + L) = ⟨0,lenD n,17 + L + 2⟩:=by
   rw [parF,t9.2.1,if_neg (fun h=>h rfl),if_pos rfl]
   rfl
  have d0:parF zs (F + 3 + 1) (.ens .nil) d 9 = ⟨0,lenD n,17 + L + 2⟩:=by
   rw [parF,t6.2.1,if_neg (fun h=>h rfl),if_neg (by decide),if_neg (by decide)]
   dsimp only
   rw [if_neg (by
    rintro (h | h)
    ·exact absurd h (by decide)
    ·exact absurd h (by unfold hasK;decide))]
   rw [v1]
   rw [if_neg (fun h=>h rfl)]
   exact d1
  rw [parF,t5.2.1,if_neg (fun h=>h rfl)]
  unfold begR
  dsimp only
  rw [if_neg (by decide),if_neg (by decide),if_neg (by decide),if_neg (by decide),if_neg (by decide),if_neg (by decide),if_pos rfl,if_neg (Nat.succ_ne_zero d),Nat.add_sub_cancel]
  exact d0
theorem drop_len {zs l:List Int} {p:Nat} (h:zs.drop p = l) (h0:l ≠ []):zs.length = p + l.length:=by
 have:=congrArg List.length h
 rw [List.length_drop] at this
 have h1:0 < l.length:=List.length_pos_iff.2 h0
 omega
theorem line_at (zs bt R:List Int) (K:Nat) (hr:∀ z ∈ zs,0 ≤ z ∧ z < 256) (h:zs.drop K = bt ++ R) (hb:bt = [10] ∨ bt = [13,10]):lineT zs K = (0,K + bt.length) ∧ zs.drop (K + bt.length) = R:=by
 refine ⟨?_,drop_n h⟩
 unfold lineT
 rw [cl_peek zs K hr,lf_peek zs K hr]
 rcases hb with rfl | rfl
 ·have p0:=peek_on (l:=R) h
  rw [p0,if_neg (by simp),if_pos (by simp)]
  rfl
 ·have p0:=peek_on (l:=10 :: R) h
  have p1:=peek_on (l:=R) (drop_one (l:=10 :: R) h)
  rw [p0,p1,if_pos (by simp)]
  rfl
theorem behind_at (zs bh:List Int) (p:Nat) (h:zs.drop p = bh ++ pdC) (hb:bh = [10] ∨ bh = [13,10] ∨ bh = [13] ∨ bh = []):wrdT zs p strEnS = (0,p + bh.length + 9) ∧ zs.drop (p + bh.length + 9) = 10 :: [101,110,100,111,98,106]:=by
 have hw:tokT zs p = tokT zs (p + bh.length):=by
  rcases hb with rfl | rfl | rfl | rfl
  ·exact (at_wh (rest:=pdC) h (by decide)).2.1
  ·have t1:=at_wh (rest:=10 :: pdC) h (by decide)
   exact t1.2.1.trans (at_wh t1.2.2 (by decide)).2.1
  ·exact (at_wh (rest:=pdC) h (by decide)).2.1
  ·rfl
 have hd:=drop_n h
 have t:=at_word (c:=101) (w:=[110,100,115,116,114,101,97,109]) (rest:=[10,101,110,100,111,98,106]) hd (by decide) (by decide) (by decide) (.inr ⟨_,_,rfl,by decide⟩)
 refine ⟨?_,t.2.2⟩
 unfold wrdT
 rw [hw,t.2.1]
 rfl
theorem end_at (zs:List Int) (p:Nat) (h:zs.drop p = 10 :: [101,110,100,111,98,106]):(wrdT zs p strEnO).1 = 0:=by
 have t1:=at_wh h (by decide)
 have t:=at_word (c:=101) (w:=[110,100,111,98,106]) (rest:=[]) t1.2.2 (by decide) (by decide) (by decide) (.inl rfl)
 unfold wrdT
 rw [t1.2.1,t.2.1]
 rfl
theorem stm_kw (zs R:List Int) (Q:Nat) (h:zs.drop Q = [115,116,114,101,97,109] ++ R) (hR:∃ r rs,R = r :: rs ∧ regB r = false):kwB zs Q strStm = true ∧ kwP zs Q strStm = Q + 6:=by
 have hp:=peek_on (l:=[116,114,101,97,109] ++ R) h
 have hb:blkP zs Q = Q:=tok_no hp (by decide) (by decide)
 have hs:strStm.size = 6:=rfl
 have hl:=drop_len h (by simp)
 have hst:stB zs Q strStm = true:=by
  rw [stB_yes zs Q strStm (by rw [hs,hl];simp),hs,h]
  exact beq_iff_eq.2 (by rfl)
 obtain ⟨r,rs,rfl,hr⟩:=hR
 have hd:zs.drop (Q + 6) = r :: rs:=drop_more h 6 rfl
 have hq:=peek_on hd
 have hk:kwB zs Q strStm = true:=by
  unfold kwB
  rw [hb,hst,hs,show ((Q:Int) + ((6:Nat):Int)) = ((Q + 6:Nat):Int) by omega,hq,hr]
  rfl
 refine ⟨hk,?_⟩
 unfold kwP
 rw [if_pos hk,hb,hs]
theorem data_item (zs bt data bh:List Int) (n:Int) (hr:∀ z ∈ zs,0 ≤ z ∧ z < 256) (hn:-2147483647 ≤ n ∧ n ≤ 2147483647)
  (h:zs.drop 0 = pdA ++ (zsB (textB n true) ++ (pdB ++ (bt ++ (data ++ (bh ++ pdC)))))) (hbt:bt = [10] ∨ bt = [13,10]) (hbh:bh = [10] ∨ bh = [13,10] ∨ bh = [13] ∨ bh = []) (F d:Nat) :
  (n < 0 → (itemT zs (F + 5) (d + 1) 0).r.e = 4) ∧ (n = data.length → (itemT zs (F + 5) (d + 1) 0).r.e = 0 ∧ (itemT zs (F + 5) (d + 1) 0).r.x = .mk 8 0 data .nil .nil):=by
 obtain ⟨h1,h2,h3⟩:=data_head zs _ n hn h F d
 obtain ⟨Q,hQ⟩:∃ Q,17 + (textB n true).length + 2 = Q:=⟨_,rfl⟩
 rw [hQ] at h2 h3
 have hkw:=stm_kw zs _ Q h3 (by rcases hbt with rfl | rfl;exact ⟨10,_,rfl,by decide⟩;exact ⟨13,_,rfl,by decide⟩)
 have hK:zs.drop (Q + 6) = bt ++ (data ++ (bh ++ pdC)):=drop_more h3 6 rfl
 have hln:=line_at zs bt _ (Q + 6) hr hK hbt
 obtain ⟨L,hL⟩:∃ L,Q + 6 + bt.length = L:=⟨_,rfl⟩
 rw [hL] at hln
 have hst:stmB zs ⟨0,lenD n,Q⟩ = true:=by unfold stmB;rw [hkw.1];rfl
 have hit:=item_fin zs (F + 5) (d + 1) 0 4 7 h1
 rw [h2] at hit
 have hbo:bodyT zs ⟨0,lenD n,Q⟩ = strT zs ⟨0,lenD n,Q⟩:=by unfold bodyT;rw [if_pos hst]
 rw [hit,hbo]
 have hdt:strT zs ⟨0,lenD n,Q⟩ = if (dataT zs (Q + 6) 2 n).1 ≠ 0 then noR (dataT zs (Q + 6) 2 n).1 (dataT zs (Q + 6) 2 n).2.2 else ⟨0,.mk 8 0 (dataT zs (Q + 6) 2 n).2.1 .nil .nil,(dataT zs (Q + 6) 2 n).2.2⟩:=by
  unfold strT
  rw [hkw.2]
  rfl
 constructor
 ·intro h0
  have hd:dataT zs (Q + 6) 2 n = (4,[],L):=by
   unfold dataT
   rw [hln.1]
   dsimp only
   rw [if_neg (fun h=>h rfl),if_pos (.inr h0)]
  rw [hdt,hd]
  rfl
 ·intro h0
  subst h0
  have hll:=drop_len hln.2 (by simp [pdC])
  have hdd:zs.drop (L + data.length) = bh ++ pdC:=drop_n hln.2
  have hbb:=behind_at zs bh _ hdd hbh
  have hd:dataT zs (Q + 6) 2 (data.length:Int) = (0,data,L + data.length + bh.length + 9):=by
   unfold dataT
   rw [hln.1]
   dsimp only
   rw [if_neg (fun h=>h rfl),if_neg (by omega),if_neg (by rw [hll,List.length_append];omega),Int.toNat_natCast,hbb.1,if_neg (fun h=>h rfl),hln.2,List.take_left]
  have hen:=end_at zs _ hbb.2
  rw [hdt,hd]
  dsimp only
  rw [if_neg (fun h=>h rfl)]
  unfold finT
  dsimp only
  rw [if_neg (fun h=>h rfl),if_neg (fun h=>h hen)]
  exact ⟨rfl,rfl⟩
end
end Go.Proofs.YtpomkhcobpihmaaGreat
