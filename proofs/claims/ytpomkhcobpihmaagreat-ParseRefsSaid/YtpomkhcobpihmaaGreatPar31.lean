/- Lemmas. -/
import Derived.Test.YtpomkhcobpihmaaGreatPar17
import Derived.Test.YtpomkhcobpihmaaGreatPar22
import Derived.Test.YtpomkhcobpihmaaGreatPar24
import Derived.Test.YtpomkhcobpihmaaGreatPar30
namespace Go.Proofs.YtpomkhcobpihmaaGreat
set_option maxRecDepth 100000
set_option linter.unusedVariables false
section
open Go.RowKit
theorem peek_on {zs l:List Int} {q:Nat} {c:Int} (h:zs.drop q = c :: l):peekZ zs (q:Int) = c:=by
 have:=peek_shift zs q 0
 rw [Nat.add_zero,h,peek_0] at this
 exact this
theorem drop_one {zs l:List Int} {q:Nat} {c:Int} (h:zs.drop q = c :: l):zs.drop (q + 1) = l:=drop_on (l:=[c]) h
theorem tok_no {zs:List Int} {p:Nat} {c:Int} (h:peekZ zs (p:Int) = c) (hw:whB c = false) (h37:c ≠ 37):blkP zs p = p:=blkP_no zs p (by rw [h];exact hw) (by rw [h];exact h37)
end
section
open Go.RowKit
structure Rt where
 e:Int
 x:Ob
 q:Nat
def nulO:Ob:=.mk 0 0 [] .nil .nil
def noR (e:Int) (q:Nat):Rt:=⟨e,nulO,q⟩
def strR:ByteArray:=⟨#[82]⟩
def refB (zs:List Int) (q:Nat):Bool:=decide ((tokT zs q).e = 0) && (decide ((tokT zs q).k = 1) && (decide ((tokT zs q).v = 0) && kwB zs (tokT zs q).q strR))
def wholeR (zs:List Int) (v:Int) (q:Nat):Rt:=if (1 ≤ v ∧ v ≤ 8388607) ∧ refB zs q = true then ⟨0,.mk 9 v [] .nil .nil,kwP zs (tokT zs q).q strR⟩ else ⟨0,.mk 2 v [] .nil .nil,q⟩
def hasK (s:ByteArray):Ens → Bool
 | .nil=>false
 | .cons t _ xs=>decide (t = s) || hasK s xs
def wordR (b:List Int) (a q:Nat):Rt :=
 if b = [116,114,117,101] then ⟨0,.mk 1 1 [] .nil .nil,q⟩ else if b = [102,97,108,115,101] then ⟨0,.mk 1 0 [] .nil .nil,q⟩ else if b = [110,117,108,108] then ⟨0,nulO,q⟩ else noR 4 a
def begR (zs:List Int) (its ens:Nat → Nat → Rt) (t:Tk) (a d:Nat):Rt :=
 if t.k = 1 then wholeR zs t.v t.q
 else if t.k = 2 then ⟨0,.mk 3 t.v [] .nil .nil,t.q⟩
 else if t.k = 3 then ⟨0,.mk 4 0 t.b .nil .nil,t.q⟩
 else if t.k = 4 then ⟨0,.mk 5 0 t.b .nil .nil,t.q⟩
 else if t.k = 9 then wordR t.b a t.q
 else if t.k = 5 then (if d = 0 then noR 6 a else its (d - 1) t.q)
 else if t.k = 7 then (if d = 0 then noR 6 a else ens (d - 1) t.q)
 else if t.k = 0 then noR 2 a
 else noR 4 a
inductive Md where
 | val:Md
 | its (l:Obs):Md
 | ens (l:Ens):Md
def parF (zs:List Int):Nat → Md → Nat → Nat → Rt
 | 0,_,_,p=>noR 4 p
 | f + 1,.val,d,p =>
  if (tokT zs p).e ≠ 0 then noR (tokT zs p).e (tokT zs p).q
  else begR zs (fun d q=>parF zs f (.its .nil) d q) (fun d q=>parF zs f (.ens .nil) d q) (tokT zs p) (blkP zs p) d
 | f + 1,.its l,d,p =>
  if (tokT zs p).e ≠ 0 then noR (tokT zs p).e (tokT zs p).q
  else if (tokT zs p).k = 6 then ⟨0,.mk 6 0 [] l .nil,(tokT zs p).q⟩
  else if (begR zs (fun d q=>parF zs f (.its .nil) d q) (fun d q=>parF zs f (.ens .nil) d q) (tokT zs p) (blkP zs p) d).e ≠ 0 then noR (begR zs (fun d q=>parF zs f (.its .nil) d q) (fun d q=>parF zs f (.ens .nil) d q) (tokT zs p) (blkP zs p) d).e (begR zs (fun d q=>parF zs f (.its .nil) d q) (fun d q=>parF zs f (.ens .nil) d q) (tokT zs p) (blkP zs p) d).q
  else parF zs f (.its (l.snoc (begR zs (fun d q=>parF zs f (.its .nil) d q) (fun d q=>parF zs f (.ens .nil) d q) (tokT zs p) (blkP zs p) d).x)) d (begR zs (fun d q=>parF zs f (.its .nil) d q) (fun d q=>parF zs f (.ens .nil) d q) (tokT zs p) (blkP zs p) d).q
 | f + 1,.ens l,d,p =>
  if (tokT zs p).e ≠ 0 then noR (tokT zs p).e (tokT zs p).q
  else if (tokT zs p).k = 8 then ⟨0,.mk 7 0 [] .nil (dictF l .nil),(tokT zs p).q⟩
  else if (tokT zs p).k = 0 then noR 2 (blkP zs p)
  else if (tokT zs p).k ≠ 4 ∨ hasK (strOfNums (tokT zs p).b) l = true then noR 4 (blkP zs p)
  else if (parF zs f .val d (tokT zs p).q).e ≠ 0 then noR (parF zs f .val d (tokT zs p).q).e (parF zs f .val d (tokT zs p).q).q
  else parF zs f (.ens (l.snoc (strOfNums (tokT zs p).b) (parF zs f .val d (tokT zs p).q).x)) d (parF zs f .val d (tokT zs p).q).q
theorem kwP_ge (zs:List Int) (p:Nat) (s:ByteArray):p ≤ kwP zs p s:=by
 unfold kwP
 split
 ·have:=blkP_ge zs p;omega
 ·exact Nat.le_refl _
theorem wholeR_e (zs:List Int) (v:Int) (q:Nat):(wholeR zs v q).e = 0:=by unfold wholeR;split <;> rfl
theorem wholeR_q (zs:List Int) (v:Int) (q:Nat):q ≤ (wholeR zs v q).q:=by
 unfold wholeR
 split
 ·rename_i h
  have h2:=h.2
  unfold refB at h2
  simp only [Bool.and_eq_true,decide_eq_true_eq] at h2
  have h3:=tokT_gt zs q h2.1 (by rw [h2.2.1];decide)
  have h5:=kwP_ge zs (tokT zs q).q strR
  show q ≤ kwP zs (tokT zs q).q strR
  omega
 ·exact Nat.le_refl _
theorem begR_q (zs:List Int) (its ens:Nat → Nat → Rt) (t:Tk) (a d:Nat) (h1:∀ d q,(its d q).e = 0 → q < (its d q).q) (h2:∀ d q,(ens d q).e = 0 → q < (ens d q).q) :
  (begR zs its ens t a d).e = 0 → t.q ≤ (begR zs its ens t a d).q:=by
 have hw:=wholeR_q zs t.v t.q
 unfold begR
 split
 ·exact fun _=>hw
 split
 ·exact fun _=>Nat.le_refl _
 split
 ·exact fun _=>Nat.le_refl _
 split
 ·exact fun _=>Nat.le_refl _
 split
 ·unfold wordR
  split
  ·exact fun _=>Nat.le_refl _
  split
  ·exact fun _=>Nat.le_refl _
  split
  ·exact fun _=>Nat.le_refl _
  ·exact fun h=>absurd h (by simp [noR])
 split
 ·split
  ·exact fun h=>absurd h (by simp [noR])
  ·exact fun h=>Nat.le_of_lt (h1 _ _ h)
 split
 ·split
  ·exact fun h=>absurd h (by simp [noR])
  ·exact fun h=>Nat.le_of_lt (h2 _ _ h)
 split
 ·exact fun h=>absurd h (by simp [noR])
 ·exact fun h=>absurd h (by simp [noR])
theorem begR_k0 (zs:List Int) (its ens:Nat → Nat → Rt) (t:Tk) (a d:Nat) (h:(begR zs its ens t a d).e = 0):t.k ≠ 0:=by
 intro hk
 unfold begR at h
 rw [hk] at h
 simp [noR] at h
theorem parF_q (zs:List Int):∀ (f:Nat) (m:Md) (d p:Nat),(parF zs f m d p).e = 0 → p < (parF zs f m d p).q
 | 0,m,d,p=>by rw [parF];exact fun h=>absurd h (by simp [noR])
 | f + 1,.val,d,p=>by
  have hB:=begR_q zs (fun d q=>parF zs f (.its .nil) d q) (fun d q=>parF zs f (.ens .nil) d q) (tokT zs p) (blkP zs p) d (fun d q=>parF_q zs f (.its .nil) d q) (fun d q=>parF_q zs f (.ens .nil) d q)
  rw [parF]
  split
  ·rename_i h0;exact fun h=>absurd h h0
  ·rename_i h0
   intro h
   have:=tokT_gt zs p (by simpa using h0) (begR_k0 _ _ _ _ _ _ h)
   have:=hB h
   omega
 | f + 1,.its l,d,p=>by
  have hB:=begR_q zs (fun d q=>parF zs f (.its .nil) d q) (fun d q=>parF zs f (.ens .nil) d q) (tokT zs p) (blkP zs p) d (fun d q=>parF_q zs f (.its .nil) d q) (fun d q=>parF_q zs f (.ens .nil) d q)
  rw [parF]
  split
  ·rename_i h0;exact fun h=>absurd h h0
  rename_i h0
  split
  ·rename_i h6
   exact fun _=>tokT_gt zs p (by simpa using h0) (by rw [h6];decide)
  have hk:=begR_k0 zs (fun d q=>parF zs f (.its .nil) d q) (fun d q=>parF zs f (.ens .nil) d q) (tokT zs p) (blkP zs p) d
  obtain ⟨R,hR⟩:∃ R,begR zs (fun d q=>parF zs f (.its .nil) d q) (fun d q=>parF zs f (.ens .nil) d q) (tokT zs p) (blkP zs p) d = R:=⟨_,rfl⟩
  rw [hR] at hB hk ⊢
  split
  ·rename_i h1;exact fun h=>absurd h h1
  ·rename_i h1
   have hI:=parF_q zs f (.its (l.snoc R.x)) d R.q
   intro h
   have h2:=hI h
   have h3:=hB (by simpa using h1)
   have h4:=tokT_gt zs p (by simpa using h0) (hk (by simpa using h1))
   omega
 | f + 1,.ens l,d,p=>by
  have hV:=parF_q zs f .val d (tokT zs p).q
  rw [parF]
  split
  ·rename_i h0;exact fun h=>absurd h h0
  rename_i h0
  split
  ·rename_i h6
   exact fun _=>tokT_gt zs p (by simpa using h0) (by rw [h6];decide)
  split
  ·exact fun h=>absurd h (by simp [noR])
  rename_i hk
  split
  ·exact fun h=>absurd h (by simp [noR])
  obtain ⟨R,hR⟩:∃ R,parF zs f .val d (tokT zs p).q = R:=⟨_,rfl⟩
  rw [hR] at hV ⊢
  split
  ·rename_i h1;exact fun h=>absurd h h1
  ·rename_i h1
   have hI:=parF_q zs f (.ens (l.snoc (strOfNums (tokT zs p).b) R.x)) d R.q
   intro h
   have h2:=hI h
   have h3:=hV (by simpa using h1)
   have h4:=tokT_gt zs p (by simpa using h0) hk
   omega
end
section
open Go.RowKit
theorem tok_at (zs:List Int) (p:Nat):tokT zs p = shT p (tokT (zs.drop p) 0):=tokT_shift zs p 0
theorem peek_c0 (c:Int) (Y:List Int):peekZ (c :: Y) ((0:Nat):Int) = c:=by
 unfold peekZ
 rw [if_pos ⟨by decide,by rw [List.length_cons];omega⟩]
 rfl
theorem blk_at (zs:List Int) (p:Nat):blkP zs p = p + blkP (zs.drop p) 0:=blkP_shift zs p 0
theorem blk_open (Y:List Int):blkP (91 :: Y) 0 = 0:=by kernel_rfl
theorem blk_close (Y:List Int):blkP (93 :: Y) 0 = 0:=by kernel_rfl
theorem tokT_nb (zs:List Int) (t:Tk) (hb:blkP zs 0 = 0) (ht:tokZ zs 0 = t) (he:t.e = 0):tokT zs 0 = t:=by
 unfold tokT
 rw [hb,ht,if_pos he]
theorem tok_open (Y:List Int):tokT (91 :: Y) 0 = ⟨0,5,0,[],1⟩:=tokT_nb _ _ (blk_open Y) (by
 unfold tokZ
 rw [peek_c0,if_neg (by decide),if_neg (by decide),if_neg (by decide),if_pos rfl]) rfl
theorem tok_close (Y:List Int):tokT (93 :: Y) 0 = ⟨0,6,0,[],1⟩:=tokT_nb _ _ (blk_close Y) (by
 unfold tokZ
 rw [peek_c0,if_neg (by decide),if_neg (by decide),if_neg (by decide),if_neg (by decide),if_pos rfl]) rfl
theorem tokT_blk (zs:List Int) (a b:Nat) (h:blkP zs a = blkP zs b):tokT zs a = tokT zs b:=by unfold tokT;rw [h]
theorem drop_more {zs a b:List Int} {p:Nat} (h:zs.drop p = a ++ b) (n:Nat) (hn:a.length = n):zs.drop (p + n) = b:=by
 rw [← List.drop_drop,h,← hn,List.drop_left]
end
section
open Go.RowKit
theorem at_of {zs l:List Int} {p:Nat} (h:zs.drop p = l):tokT zs p = shT p (tokT l 0) ∧ blkP zs p = p + blkP l 0:=⟨by rw [tok_at,h],by rw [blk_at,h]⟩
theorem drop_n {zs a b:List Int} {p:Nat} (h:zs.drop p = a ++ b):zs.drop (p + a.length) = b:=drop_more h _ rfl
theorem at_wh {zs rest:List Int} {p:Nat} {c:Int} (h:zs.drop p = c :: rest) (hc:whB c = true):blkP zs p = blkP zs (p + 1) ∧ tokT zs p = tokT zs (p + 1) ∧ zs.drop (p + 1) = rest:=by
 have hb:=(blkP_wh zs p (by rw [peek_on h];exact hc)).2
 exact ⟨hb,tokT_blk zs _ _ hb,drop_one h⟩
theorem at_num {zs rest:List Int} {p:Nat} {n:Int} {whole:Bool} (hn:inB n = true) (hw:whole = true → -2147483647 ≤ n ∧ n ≤ 2147483647) (he:rowZ regB rest = 0) (h:zs.drop p = zsB (textB n whole) ++ rest) :
  blkP zs p = p ∧ tokT zs p = ⟨0,if whole = true then 1 else 2,n,[],p + (textB n whole).length⟩ ∧ zs.drop (p + (textB n whole).length) = rest:=by
 have h1:=num_tok n whole hn hw rest he
 have h2:=at_of h
 rw [h1.1] at h2
 rw [h1.2] at h2
 exact ⟨h2.2,h2.1,drop_more h _ (by simp [zsB])⟩
theorem row_stopR {rest:List Int} (K:Int → Bool) (hr:rest = [] ∨ ∃ r rs,rest = r :: rs ∧ K r = false):rowZ K rest = 0:=by
 rcases hr with rfl | ⟨r,rs,rfl,hb⟩
 ·rfl
 ·rw [rowZ,if_neg (by rw [hb];decide)]
theorem at_open {zs rest:List Int} {p:Nat} (h:zs.drop p = 91 :: rest):blkP zs p = p ∧ tokT zs p = ⟨0,5,0,[],p + 1⟩ ∧ zs.drop (p + 1) = rest:=by
 have h2:=at_of h
 rw [blk_open,tok_open] at h2
 exact ⟨h2.2,h2.1,drop_more (a:=[91]) h 1 rfl⟩
theorem at_close {zs rest:List Int} {p:Nat} (h:zs.drop p = 93 :: rest):blkP zs p = p ∧ tokT zs p = ⟨0,6,0,[],p + 1⟩ ∧ zs.drop (p + 1) = rest:=by
 have h2:=at_of h
 rw [blk_close,tok_close] at h2
 exact ⟨h2.2,h2.1,drop_more (a:=[93]) h 1 rfl⟩
end
section
open Go.RowKit
structure PX (w:World) (m h g:Nat) (A:Option Addr) (n c d:Nat) (zs:List Int) (p:Nat):Prop where
 ps:w.heap[m]? = some (.cells #[.pointer (some ⟨h,0,none⟩),.int .i64 d] 66 (0,0))
 lx:LX w h g A n c p
 bt:Byt w g A n c zs
 ne:m ≠ g
 sm:n ≤ 900000
section
variable {w w':World} {m h g n c d p q b:Nat} {A:Option Addr} {zs:List Int}
theorem PX.lt (x:PX w m h g A n c d zs p):m < w.heap.size:=row_lt w m _ x.ps
theorem PX.k0 (x:PX w m h g A n c d zs p):w.cell? ⟨m,0,none⟩ = some (.pointer (some ⟨h,0,none⟩)):=by rw [cell_of_row w m 0 _ _ (0,0) x.ps];rfl
theorem PX.k1 (x:PX w m h g A n c d zs p):w.cell? ⟨m,1,none⟩ = some (.int .i64 d):=by rw [cell_of_row w m 1 _ _ (0,0) x.ps];rfl
theorem PX.drewN (x:PX w m h g A n c d zs p) (k:Nat):PX (w.drewN k) m h g A n c d zs p:=⟨x.ps,x.lx.drewN k,x.bt.drewN k,x.ne,x.sm⟩
theorem PX.moved (x:PX w m h g A n c d zs p) (hl:LX w' h g A n c q) (ho:Only g w w'):PX w' m h g A n c d zs q :=
 ⟨(ho.block m x.lt x.ne).trans x.ps,hl,x.bt.only ho (Nat.le_refl _) (Nat.le_of_lt x.lx.cu.lt),x.ne,x.sm⟩
theorem PX.low (x:PX w m h g A n c d zs p) (hb:Below w.heap.size w w'):PX w' m h g A n c d zs p :=
 ⟨(hb.block m x.lt).trans x.ps,x.lx.below hb x.lx.lt x.lx.cu.lt,x.bt.below hb (Nat.le_of_lt x.lx.cu.lt),x.ne,x.sm⟩
theorem PX.alloc (x:PX w m h g A n c d zs p) (o:Obj):PX (w.alloc o) m h g A n c d zs p:=x.low ((Below.refl _ _).alloc (Nat.le_refl _) o)
theorem PX.len (x:PX w m h g A n c d zs p):zs.length = n:=x.bt.len
theorem PX.pz (x:PX w m h g A n c d zs p):p ≤ zs.length:=by rw [x.bt.len];exact x.lx.pl
theorem PX.set5 (x:PX w m h g A n c d zs p) (hm:m < b) (hh:h < b) (hg:g < b) {x0 x1 x2 x3 x4:Value}:PX (((((w.setCell ⟨b,0,none⟩ x0).setCell ⟨b,1,none⟩ x1).setCell ⟨b,2,none⟩ x2).setCell ⟨b,3,none⟩ x3).setCell ⟨b,4,none⟩ x4) m h g A n c d zs p :=
 ⟨(heap_set5 (Nat.ne_of_lt hm)).trans x.ps,x.lx.keep2 (heap_set5 (Nat.ne_of_lt hh)) (heap_set5 (Nat.ne_of_lt hg)),
  ⟨x.bt.len,x.bt.cap,x.bt.rng,fun hn=>by
  obtain ⟨b',o,e,hlt,hc⟩:=x.bt.cell hn
  exact ⟨b',o,e,hlt,fun i hi=>(World.cell?_of_block (a:=⟨b',o + i,none⟩) (heap_set5 (show b' ≠ b by omega))).trans (hc i hi)⟩⟩,x.ne,x.sm⟩
theorem Only.set5 {g b:Nat} {w w':World} (ho:Only g w w') (hb:w.heap.size ≤ b) {x0 x1 x2 x3 x4:Value}:Only g w (((((w'.setCell ⟨b,0,none⟩ x0).setCell ⟨b,1,none⟩ x1).setCell ⟨b,2,none⟩ x2).setCell ⟨b,3,none⟩ x3).setCell ⟨b,4,none⟩ x4) :=
 ((((ho.setN hb 0 x0).setN hb 1 x1).setN hb 2 x2).setN hb 3 x3).setN hb 4 x4
end
theorem ptkC {w:World} {m h g n c d p:Nat} {A:Option Addr} {zs:List Int} (x:PX w m h g A n c d zs p) :
  Calls Tryz.prog 50 #[.pointer (some ⟨h,0,none⟩)] w fun r w'=>∃ (A':Option Addr) (l c':Nat),r = .returned (.tuple #[tkA (tokT zs p).k (blkP zs p) (tokT zs p).v A' l c',.int .i64 (tokT zs p).e]) ∧ PX w' m h g A n c d zs (tokT zs p).q ∧ Only g w w' ∧ Byt w' w'.heap.size A' l c' (tokT zs p).b ∧ From w.heap.size A' l :=
 (ptokC h g n c p g A zs w x.lx x.bt (Nat.le_refl _) x.sm).mono fun _ _ ⟨A',l,c',he,hl,ho,hy,hf⟩=>⟨A',l,c',he,x.moved hl ho,ho,hy,hf⟩
theorem pkwC {w:World} {m h g n c d p:Nat} {A:Option Addr} {zs:List Int} (x:PX w m h g A n c d zs p) (s:ByteArray) (hs:s.size ≤ 900000) :
  Calls Tryz.prog 46 #[.pointer (some ⟨h,0,none⟩),.string s] w fun r w'=>r = .returned (.bool (kwB zs p s)) ∧ PX w' m h g A n c d zs (kwP zs p s) ∧ Only g w w' :=
 (pkeywordC h g n c p g A zs s w x.lx x.bt (Nat.le_refl _) x.sm hs).mono fun _ _ ⟨he,hl,ho⟩=>⟨he,x.moved hl ho,ho⟩
theorem pskC {w:World} {m h g n c d p:Nat} {A:Option Addr} {zs:List Int} (x:PX w m h g A n c d zs p) (q:Nat) (hq:q ≤ n) :
  Calls Tryz.prog 63 #[.pointer (some ⟨g,0,none⟩),.int .i64 q] w fun r w'=>r = .returned (.bool true) ∧ PX w' m h g A n c d zs q ∧ Only g w w' :=
 (seek_in g n c p q A w x.lx.cu hq (by have:=x.sm;omega)).mono fun _ _ ⟨he,hc,ho⟩=>⟨he,x.moved (x.lx.moved hc ho hq) ho,ho⟩
theorem ppsC {w:World} {m h g n c d p:Nat} {A:Option Addr} {zs:List Int} (x:PX w m h g A n c d zs p) :
  Calls Tryz.prog 35 #[.pointer (some ⟨g,0,none⟩)] w fun r w'=>r = .returned (.int .i64 p) ∧ w = w':=pos_any g n c p A w x.lx.cu
theorem backC {w:World} {m h g n c d p:Nat} {A:Option Addr} {zs:List Int} (x:PX w m h g A n c d zs p) (k v e:Int) (a:Nat) (A':Option Addr) (l c':Nat) (ha:a ≤ n) :
  Calls Tryz.prog 74 #[.pointer (some ⟨m,0,none⟩),tkA k a v A' l c',.int .i64 e] w fun r w'=>r = .returned (.int .i64 e) ∧ PX w' m h g A n c d zs a ∧ Only g w w':=by
 have hx1:=x.alloc (.cells #[.int .i64 k,.int .i64 a,.int .i64 v,.slice A' l c'] 95)
 have hn1:=Bx.new w 95 (.int .i64 k) (.int .i64 a) (.int .i64 v) (.slice A' l c')
 have ho1:=(Only.refl g w).alloc (.cells #[.int .i64 k,.int .i64 a,.int .i64 v,.slice A' l c'] 95)
 obtain ⟨W1,hW1⟩:∃ W1,w.alloc (.cells #[.int .i64 k,.int .i64 a,.int .i64 v,.slice A' l c'] 95) = W1:=⟨_,rfl⟩
 rw [hW1] at hx1 hn1 ho1
 have t1:=hn1.c1
 have k0:=hx1.k0
 have j0:=hx1.lx.k0
 have HX1:=lH hx1
 have HO1:=lH ho1
 have HW1:=lH hW1
 have HA:=lH ha
 have HN1:=lH hn1
 have HG:=lH x.lx.cu.lt
 clear hx1 hn1 ho1 hW1 ha x
 go_enter Tryz.func74,Tryz.ntmps74
 go_upto_region 1 with fail
 rw [HW1.out]
 refine wp_region_heldR (fun W=>W.cell? ⟨m,0,none⟩ = some (.pointer (some ⟨h,0,none⟩)) ∧ W.cell? ⟨h,0,none⟩ = some (.pointer (some ⟨g,0,none⟩)) ∧ W.cell? ⟨w.heap.size,1,none⟩ = some (.int .i64 a)) 1000 (by kernel_rfl) ⟨k0,j0,t1⟩ (fun hHeld=>?_)
 refine tkQ 0 ?_
 try simp only [Act.put,aS2,aS0,aS1]
 refine tkQ 1 ?_
 try simp only [Act.put,aS2,aS0,aS1]
 refine tkQ 2 ?_
 try simp only [Act.put,aS2,aS0,aS1]
 refine tkQ 3 ?_
 try simp only [Act.put,aS2,aS0,aS1]
 refine tkQ 4 ?_
 try simp only [Act.put,aS2,aS0,aS1]
 refine tkQ 5 ?_
 try simp only [Act.put,aS2,aS0,aS1]
 refine tkQ 6 ?_
 try simp only [Act.put,aS2,aS0,aS1]
 refine tkQ 7 ?_
 try simp only [Act.put,aS2,aS0,aS1]
 refine tkQ 8 ?_
 try simp only [Act.put,aS2,aS0,aS1]
 refine wpAnyR_step 9 rfl (by kernel_rfl) (fun K hK=>?_)
 go_simp
 go_at_call 63
 refine (pskC (HX1.out.drewN 1) a HA.out).mono ?_
 rintro r w2 ⟨rfl,hx2,ho2⟩
 have HX2:=lH hx2
 have HO2:=lH ((HO1.out.drewN 1).trans ho2)
 have hb2:=(HN1.out.drewN 1).only ho2 (Nat.ne_of_gt HG.out)
 have t2:=hb2.c1
 clear hx2 ho2 hb2
 refine hK.out _ _ (⟨HX2.out.k0,HX2.out.lx.k0,t2⟩) (fun hHeld=>?_)
 clear hK K
 try simp only [Act.put,aS2,aS0,aS1]
 refine wpAnyR_done (by kernel_rfl) ?_
 refine NoPanic.normal ?_
 go_wp2_with fail
 go_ret
 exact ⟨rfl,HX2.out,HO2.out⟩
def wrgZ (k:Int):Int:=if k = 0 then 2 else 4
theorem wrongC {w:World} {m h g n c d p:Nat} {A:Option Addr} {zs:List Int} (x:PX w m h g A n c d zs p) (k v:Int) (a:Nat) (A':Option Addr) (l c':Nat) (ha:a ≤ n) :
  Calls Tryz.prog 51 #[.pointer (some ⟨m,0,none⟩),tkA k a v A' l c'] w fun r w'=>r = .returned (.int .i64 (wrgZ k)) ∧ PX w' m h g A n c d zs a ∧ Only g w w':=by
 have hx1:=x.alloc (.cells #[.int .i64 k,.int .i64 a,.int .i64 v,.slice A' l c'] 95)
 have hn1:=Bx.new w 95 (.int .i64 k) (.int .i64 a) (.int .i64 v) (.slice A' l c')
 have ho1:=(Only.refl g w).alloc (.cells #[.int .i64 k,.int .i64 a,.int .i64 v,.slice A' l c'] 95)
 obtain ⟨W1,hW1⟩:∃ W1,w.alloc (.cells #[.int .i64 k,.int .i64 a,.int .i64 v,.slice A' l c'] 95) = W1:=⟨_,rfl⟩
 rw [hW1] at hx1 hn1 ho1
 have t0:=hn1.c0
 have t1:=hn1.c1
 have t2:=hn1.c2
 have t3:=hn1.c3
 have HX1:=lH hx1
 have HO1:=lH ho1
 have HW1:=lH hW1
 have HA:=lH ha
 have HBK:=lH (fun e=>backC HX1.out k v e a A' l c' HA.out)
 clear hx1 hn1 ho1 hW1 ha x
 unfold wrgZ
 by_cases hk:k = 0
 ·subst hk
  rw [if_pos rfl]
  go_enter Tryz.func51,Tryz.ntmps51
  go_upto_region 1 with fail
  rw [HW1.out]
  go_wp2_with (go_at_call 74;refine (HBK.out _).mono ?_;(rintro r w2 ⟨rfl,hx2,ho2⟩))
  go_ret
  exact ⟨rfl,hx2,HO1.out.trans ho2⟩
 ·rw [if_neg hk]
  have hkb:(k == 0) = false:=beq_eq_false_iff_ne.2 hk
  clear hk
  go_enter Tryz.func51,Tryz.ntmps51
  go_upto_region 1 with fail
  rw [HW1.out]
  go_wp2_with (go_at_call 74;refine (HBK.out _).mono ?_;(rintro r w2 ⟨rfl,hx2,ho2⟩))
  go_ret
  exact ⟨rfl,hx2,HO1.out.trans ho2⟩
theorem numbersC (k:Int) (w:World):Calls Tryz.prog 104 #[.int .i64 k] w fun e w'=>e = .returned (.bool (decide (1 ≤ k ∧ k ≤ 8388607))) ∧ w = w':=by
 by_cases h1:1 ≤ k
 ·by_cases h2:k ≤ 8388607
  ·have e:decide (1 ≤ k ∧ k ≤ 8388607) = true:=decide_eq_true ⟨h1,h2⟩
   rw [e]
   go_enter Tryz.func104,Tryz.ntmps104
   go_wp2_with fail
   go_ret
   exact ⟨rfl,rfl⟩
  ·have e:decide (1 ≤ k ∧ k ≤ 8388607) = false:=decide_eq_false (fun h=>h2 h.2)
   have e2:decide (k ≤ 8388607) = false:=decide_eq_false h2
   rw [e]
   clear e
   go_enter Tryz.func104,Tryz.ntmps104
   go_wp2_with fail
   go_ret
   exact ⟨rfl,rfl⟩
 ·have e:decide (1 ≤ k ∧ k ≤ 8388607) = false:=decide_eq_false (fun h=>h1 h.1)
  have e2:decide (1 ≤ k) = false:=decide_eq_false h1
  rw [e]
  clear e
  go_enter Tryz.func104,Tryz.ntmps104
  go_wp2_with fail
  go_ret
  exact ⟨rfl,rfl⟩
end
end Go.Proofs.YtpomkhcobpihmaaGreat
