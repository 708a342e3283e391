/- Lemmas. -/
import Derived.Test.YtpomkhcobpihmaaGreatPad34
import Derived.Test.YtpomkhcobpihmaaGreatPad37
namespace Go.Proofs.YtpomkhcobpihmaaGreat
set_option maxRecDepth 100000
set_option linter.unusedVariables false
section
open Go.RowKit
theorem strR_of {l:List Int} (hr:∀ z ∈ l,0 ≤ z ∧ z < 256):strOfNums l = strR ↔ l = [82]:=by
 constructor
 ·intro h
  have h1:=congrArg (fun s:ByteArray=>s.data.toList) h
  have h2:(strOfNums l).data.toList = [82]:=h1
  rw [strOfNums_data] at h2
  rcases l with _ | ⟨z,_ | ⟨y,l⟩⟩
  ·cases h2
  ·have:=hr z (by simp)
   simp at h2
   have h3:=congrArg UInt8.toNat h2
   simp at h3
   have h4:z = 82:=by omega
   rw [h4]
  ·simp at h2
 ·intro h;subst h;rfl
theorem strR_size:strR.size = 1:=rfl
theorem stR (zs:List Int) (hr:∀ z ∈ zs,0 ≤ z ∧ z < 256) (p:Nat):stB zs p strR = decide (peekZ zs (p:Int) = 82):=by
 by_cases h:p < zs.length
 ·rw [stB_yes zs p strR (by rw [strR_size];omega),strR_size,drop_peek zs p h,List.take_succ_cons,List.take_zero]
  have hz:∀ z ∈ [peekZ zs (p:Int)],0 ≤ z ∧ z < 256:=fun z hz=>by
   rw [List.mem_singleton] at hz
   subst hz
   rw [peekZ_in zs p h]
   rw [getD_eq zs p h]
   exact hr _ (List.getElem_mem h)
  have:=strR_of hz
  by_cases h82:peekZ zs (p:Int) = 82
  ·rw [decide_eq_true h82,h82,show strOfNums [82] = strR by rfl];exact beq_self_eq_true _
  ·rw [decide_eq_false h82]
   have hne:¬ strOfNums [peekZ zs (p:Int)] = strR:=fun e=>h82 (by have:=this.1 e;simpa using this)
   exact beq_eq_false_iff_ne.2 (fun e=>hne (toListB_inj e))
 ·rw [stB_no zs p strR (by rw [strR_size];omega),peekZ_nat zs p (by omega)]
  rfl
theorem kwR_tok (zs:List Int) (hr:∀ z ∈ zs,0 ≤ z ∧ z < 256) (q:Nat):kwB zs q strR = (decide ((tokT zs q).e = 0) && (decide ((tokT zs q).k = 9) && decide ((tokT zs q).b = [82]))) ∧ (kwB zs q strR = true → kwP zs q strR = (tokT zs q).q):=by
 unfold kwP kwB
 rw [stR zs hr]
 obtain ⟨bp,hbp⟩:∃ bp,blkP zs q = bp:=⟨_,rfl⟩
 unfold tokT
 rw [hbp,strR_size]
 have e1:((bp:Int) + ((1:Nat):Int)) = ((bp + 1:Nat):Int):=by omega
 rw [e1]
 by_cases h:peekZ zs (bp:Int) = 82
 ·have hlt:=peekZ_lt zs bp (by omega)
  have hrow:rowZ regB (zs.drop bp) = rowZ regB (zs.drop (bp + 1)) + 1:=(row_in regB (by decide) zs bp (by rw [h];decide)).2
  have htz:tokZ zs bp = if 127 < rowZ regB (zs.drop bp) then ⟨3,0,0,[],bp⟩ else ⟨0,9,0,(zs.drop bp).take (rowZ regB (zs.drop bp)),bp + rowZ regB (zs.drop bp)⟩:=by
   unfold tokZ
   rw [h,if_neg (by decide),if_neg (by decide),if_pos (by decide)]
  rw [decide_eq_true h,htz]
  cases hg:regB (peekZ zs ((bp + 1:Nat):Int)) with
  | false =>
   have h0:=row_out regB zs (bp + 1) hg
   rw [h0] at hrow
   rw [hrow,drop_peek zs bp hlt,h]
   simp
  | true =>
   have h1:=row_in regB (by decide) zs (bp + 1) hg
   have h2:=row_in regB (by decide) zs (bp + 1) hg
   have hlen:2 ≤ rowZ regB (zs.drop bp):=by omega
   have hne:¬ (zs.drop bp).take (rowZ regB (zs.drop bp)) = [82]:=fun e=>by
    have h4:=congrArg List.length e
    have h5:=rowZ_le regB (zs.drop bp)
    rw [List.length_take] at h4
    simp only [List.length_singleton] at h4
    omega
   by_cases h127:127 < rowZ regB (zs.drop bp)
   ·rw [if_pos h127];simp
   ·rw [if_neg h127]
    simp [hne]
 ·have hne:∀ t,(tokZ zs bp) = t → t.e = 0 → t.k = 9 → t.b = [82] → False:=by
   intro t ht h0 h9 hb
   subst ht
   unfold tokZ at h0 h9 hb
   by_cases c0:peekZ zs (bp:Int) < 0
   ·rw [if_pos c0] at h9;exact absurd h9 (by simp)
   rw [if_neg c0] at h0 h9 hb
   by_cases c1:nmB (peekZ zs (bp:Int)) = true
   ·rw [if_pos c1] at hb;exact absurd hb (by simp)
   rw [if_neg c1] at h0 h9 hb
   by_cases c2:regB (peekZ zs (bp:Int)) = true
   ·rw [if_pos c2] at h0 h9 hb
    by_cases d:127 < rowZ regB (zs.drop bp)
    ·rw [if_pos d] at hb;exact absurd hb (by simp)
    ·rw [if_neg d] at hb
     have h3:=row_in regB (by decide) zs bp c2
     rw [drop_peek zs bp h3.1,← drop_peek zs bp h3.1,h3.2] at hb
     have hlt:=h3.1
     rw [drop_peek zs bp hlt,List.take_succ_cons] at hb
     injection hb with hb1 hb2
     exact h hb1
   rw [if_neg c2] at h0 h9 hb
   by_cases c3:peekZ zs (bp:Int) = 91
   ·rw [if_pos c3] at h9;exact absurd h9 (by simp)
   rw [if_neg c3] at h0 h9 hb
   by_cases c4:peekZ zs (bp:Int) = 93
   ·rw [if_pos c4] at h9;exact absurd h9 (by simp)
   rw [if_neg c4] at h0 h9 hb
   by_cases c5:peekZ zs (bp:Int) = 60 ∧ peekZ zs ((bp + 1:Nat):Int) = 60
   ·rw [if_pos c5] at h9;exact absurd h9 (by simp)
   rw [if_neg c5] at h0 h9 hb
   by_cases c6:peekZ zs (bp:Int) = 62 ∧ peekZ zs ((bp + 1:Nat):Int) = 62
   ·rw [if_pos c6] at h9;exact absurd h9 (by simp)
   rw [if_neg c6] at h0 h9 hb
   by_cases c7:peekZ zs (bp:Int) = 47
   ·rw [if_pos c7] at h9;exact absurd h9 (by simp)
   rw [if_neg c7] at h0 h9 hb
   by_cases c8:peekZ zs (bp:Int) = 40
   ·rw [if_pos c8] at h9;exact absurd h9 (by simp)
   rw [if_neg c8] at h0 h9 hb
   by_cases c9:peekZ zs (bp:Int) = 60
   ·rw [if_pos c9] at h9;exact absurd h9 (by simp)
   rw [if_neg c9] at h0 h9 hb
   exact absurd h9 (by simp)
  rw [decide_eq_false h,Bool.false_and]
  refine ⟨?_,fun h=>by cases h⟩
  by_cases h0:(tokZ zs bp).e = 0
  ·rw [if_pos h0]
   by_cases h9:(tokZ zs bp).k = 9
   ·by_cases hb:(tokZ zs bp).b = [82]
    ·exact (hne _ rfl h0 h9 hb).elim
    ·simp [hb]
   ·simp [h9]
  ·rw [if_neg h0]
   simp
end
section
open Go.RowKit
def nnE:Ens → Ens
 | .nil=>.nil
 | .cons s x xs=>if x.kind = 0 then nnE xs else .cons s x (nnE xs)
theorem nnE_toL:∀ l:Ens,(nnE l).toL = l.toL.filter (fun p=>decide (¬ p.2.kind = 0))
 | .nil=>rfl
 | .cons s x xs=>by
  rw [nnE,Ens.toL,List.filter_cons]
  by_cases h:x.kind = 0
  ·rw [if_pos h,if_neg (by simpa using h),nnE_toL xs]
  ·rw [if_neg h,if_pos (by simpa using h),Ens.toL,nnE_toL xs]
theorem toL_snoc:∀ (l:Ens) (s:ByteArray) (x:Ob),(l.snoc s x).toL = l.toL ++ [(s,x)]
 | .nil,s,x=>rfl
 | .cons t y ys,s,x=>by rw [Ens.snoc,Ens.toL,toL_snoc ys s x,Ens.toL,List.cons_append]
theorem nnE_snoc0:∀ (l:Ens) (s:ByteArray) (x:Ob),x.kind = 0 → nnE (l.snoc s x) = nnE l
 | .nil,s,x,h=>by simp [Ens.snoc,nnE,h]
 | .cons t y ys,s,x,h=>by rw [Ens.snoc,nnE,nnE,nnE_snoc0 ys s x h]
theorem nnE_snoc1:∀ (l:Ens) (s:ByteArray) (x:Ob),x.kind ≠ 0 → nnE (l.snoc s x) = (nnE l).snoc s x
 | .nil,s,x,h=>by simp [Ens.snoc,nnE,h]
 | .cons t y ys,s,x,h=>by
  rw [Ens.snoc,nnE,nnE,nnE_snoc1 ys s x h]
  split <;> rfl
theorem hasK_mem (s:ByteArray):∀ l:Ens,hasK s l = true ↔ ∃ p ∈ l.toL,p.1 = s
 | .nil=>by rw [hasK,Ens.toL];simp
 | .cons t y ys=>by
  rw [hasK,Ens.toL,Bool.or_eq_true,hasK_mem s ys]
  simp
theorem hasK_snoc (s:ByteArray):∀ (l:Ens) (t:ByteArray) (x:Ob),hasK s (l.snoc t x) = (hasK s l || decide (t = s))
 | .nil,t,x=>by simp [Ens.snoc,hasK]
 | .cons u y ys,t,x=>by rw [Ens.snoc,hasK,hasK,hasK_snoc s ys t x,Bool.or_assoc]
def DK (l:Ens):Prop:=l.toL.Pairwise (fun a b=>a.1 ≠ b.1)
theorem DK.snoc {l:Ens} (h:DK l) (s:ByteArray) (x:Ob) (hs:hasK s l = false):DK (l.snoc s x):=by
 unfold DK
 rw [toL_snoc,List.pairwise_append]
 refine ⟨h,List.pairwise_singleton _ _,fun a ha b hb e=>?_⟩
 rw [List.mem_singleton] at hb
 subst hb
 have:=(hasK_mem s l).2 ⟨a,ha,e⟩
 rw [hs] at this
 cases this
theorem lk_mem:∀ (l:List KV) (p:KV),l.Pairwise (fun a b=>a.1 ≠ b.1) → p ∈ l → lk l p.1 = some p.2
 | q :: l,p,h,hp=>by
  rw [List.pairwise_cons] at h
  rcases List.mem_cons.1 hp with rfl | hp
  ·simp [lk]
  ·have:=h.1 p hp
   simp only [lk]
   rw [if_neg this,lk_mem l p h.2 hp]
theorem dk_one {l:List KV} (h:l.Pairwise (fun a b=>a.1 ≠ b.1)) {p q:KV} (hp:p ∈ l) (hq:q ∈ l) (e:p.1 = q.1):p = q:=by
 have h1:=lk_mem l p h hp
 have h2:=lk_mem l q h hq
 rw [e,h2] at h1
 injection h1 with h1
 exact Prod.ext e h1.symm
theorem dict_sorted (l:Ens) (rs:List Rw) (hd:DK l) (hp:(rs.map prR).Perm (nnE l).toL) (hs:Srt keyR rs):rs.map prR = (dictF l .nil).toL:=by
 have hsub:((nnE l).toL).Pairwise (fun a b=>a.1 ≠ b.1):=by rw [nnE_toL];exact List.Pairwise.filter _ hd
 have hdr:(rs.map prR).Pairwise (fun a b=>a.1 ≠ b.1):=(hp.pairwise_iff (fun {_ _} h=>Ne.symm h)).2 hsub
 have hin:∀ p,p ∈ rs.map prR ↔ p ∈ l.toL ∧ ¬ p.2.kind = 0:=fun p=>by rw [hp.mem_iff,nnE_toL,List.mem_filter];simp
 have hss:SS (rs.map prR):=by
  unfold SS
  rw [List.pairwise_map] at hdr ⊢
  unfold Srt at hs
  exact (hdr.and hs).imp fun {a b} hh=>by
   cases h:ltS (prR a).1 (prR b).1 with
   | true=>rfl
   | false=>exact absurd (ltS_eq_of h hh.2) hh.1
 refine ss_ext _ _ hss (dict_ss l .nil List.Pairwise.nil) fun t=>?_
 rw [dict_lk l .nil t List.Pairwise.nil]
 cases hl:lastV l.toL t with
 | none =>
  show lk (rs.map prR) t = none
  refine lk_none _ _ fun p hpm e=>?_
  have h1:=((hin p).1 hpm).1
  unfold lastV at hl
  rw [List.getLast?_eq_none_iff] at hl
  have:p ∈ l.toL.filter (fun p=>decide (p.1 = t)):=List.mem_filter.2 ⟨h1,by simpa using e⟩
  rw [hl] at this
  cases this
 | some p =>
  unfold lastV at hl
  have hm:=List.mem_filter.1 (List.mem_of_getLast? hl)
  have hk:p.1 = t:=by simpa using hm.2
  dsimp only
  by_cases h0:p.2.kind = 0
  ·rw [if_pos h0]
   refine lk_none _ _ fun q hqm e=>?_
   have h1:=(hin q).1 hqm
   have:=dk_one hd h1.1 hm.1 (by rw [e,hk])
   subst this
   exact h1.2 h0
  ·rw [if_neg h0,← hk]
   exact lk_mem _ p hdr ((hin p).2 ⟨hm.1,h0⟩)
end
section
open Go.RowKit
theorem wholeR_le (zs:List Int) (v:Int) (q:Nat) (h:q ≤ zs.length):(wholeR zs v q).q ≤ zs.length:=by
 unfold wholeR
 split
 ·exact kwP_le zs _ _ (tokT_q zs q h)
 ·exact h
theorem begR_le (zs:List Int) (its ens:Nat → Nat → Rt) (t:Tk) (a d:Nat) (ht:t.q ≤ zs.length) (ha:a ≤ zs.length) (h1:∀ d,(its d t.q).q ≤ zs.length) (h2:∀ d,(ens d t.q).q ≤ zs.length):(begR zs its ens t a d).q ≤ zs.length:=by
 unfold begR
 split
 ·exact wholeR_le zs _ _ ht
 split
 ·exact ht
 split
 ·exact ht
 split
 ·exact ht
 split
 ·unfold wordR
  split
  ·exact ht
  split
  ·exact ht
  split
  ·exact ht
  ·exact ha
 split
 ·split
  ·exact ha
  ·exact h1 _
 split
 ·split
  ·exact ha
  ·exact h2 _
 split
 ·exact ha
 ·exact ha
theorem parF_le (zs:List Int):∀ (f:Nat) (m:Md) (d p:Nat),p ≤ zs.length → (parF zs f m d p).q ≤ zs.length
 | 0,m,d,p,hp=>by rw [parF];exact hp
 | f + 1,.val,d,p,hp=>by
  have hb:=(blkP_le zs p hp).2
  have ht:=tokT_q zs p hp
  rw [parF]
  split
  ·exact ht
  ·exact begR_le zs _ _ _ _ _ ht hb (fun d=>parF_le zs f (.its .nil) d _ ht) (fun d=>parF_le zs f (.ens .nil) d _ ht)
 | f + 1,.its l,d,p,hp=>by
  have hb:=(blkP_le zs p hp).2
  have ht:=tokT_q zs p hp
  have hB:=begR_le zs (fun d q=>parF zs f (.its .nil) d q) (fun d q=>parF zs f (.ens .nil) d q) (tokT zs p) (blkP zs p) d ht hb (fun d=>parF_le zs f (.its .nil) d _ ht) (fun d=>parF_le zs f (.ens .nil) d _ ht)
  rw [parF]
  split
  ·exact ht
  split
  ·exact ht
  split
  ·exact hB
  ·exact parF_le zs f _ d _ hB
 | f + 1,.ens l,d,p,hp=>by
  have hb:=(blkP_le zs p hp).2
  have ht:=tokT_q zs p hp
  have hV:=parF_le zs f .val d (tokT zs p).q ht
  rw [parF]
  split
  ·exact ht
  split
  ·exact ht
  split
  ·exact hb
  split
  ·exact hb
  split
  ·exact hV
  ·exact parF_le zs f _ d _ hV
theorem okL_snoc:∀ (l:Obs) (x:Ob),okL l → okO x → okL (l.snoc x)
 | .nil,x,_,h=>by unfold Obs.snoc okL okL;exact ⟨h,trivial⟩
 | .cons y ys,x,hl,h=>by unfold okL at hl;unfold Obs.snoc okL;exact ⟨hl.1,okL_snoc ys x hl.2 h⟩
theorem okE_snoc:∀ (l:Ens) (s:ByteArray) (x:Ob),okE l → okO x → okE (l.snoc s x)
 | .nil,s,x,_,h=>by unfold Ens.snoc okE okE;exact ⟨h,trivial⟩
 | .cons t y ys,s,x,hl,h=>by unfold okE at hl;unfold Ens.snoc okE;exact ⟨hl.1,okE_snoc ys s x hl.2 h⟩
theorem okE_with (s:ByteArray) (x:Ob) (hx:okO x):∀ (d:Ens) (p:Bool),okE d → okE (withE s x d p)
 | .nil,p,_=>by
  rw [withE]
  split
  ·unfold okE;trivial
  ·unfold okE okE;exact ⟨hx,trivial⟩
 | .cons t y ys,p,hd=>by
  unfold okE at hd
  have h1:=okE_with s x hx ys true hd.2
  have h2:=okE_with s x hx ys p hd.2
  rw [withE]
  split
  ·split
   ·unfold okE;exact ⟨hx,h1⟩
   ·unfold okE okE;exact ⟨hx,hd.1,h1⟩
  ·split
   ·exact h2
   ·unfold okE;exact ⟨hd.1,h2⟩
theorem dictF_ok:∀ (l acc:Ens),okE l → okE acc → okE (dictF l acc)
 | .nil,acc,_,h=>h
 | .cons s x xs,acc,hl,h=>by unfold okE at hl;rw [dictF];exact dictF_ok xs _ hl.2 (okE_with s x hl.1 acc _ h)
theorem dictF_len:∀ (l acc:Ens),(dictF l acc).len ≤ acc.len + l.len
 | .nil,acc=>Nat.le_add_right _ _
 | .cons s x xs,acc=>by
  have h1:=dictF_len xs (withE s x acc (decide (x.kind = 0)))
  have h2:=withE_len s x acc (decide (x.kind = 0))
  rw [dictF,Ens.len]
  omega
theorem okO_plain {k n:Int} {b:List Int} (hb:b.length ≤ 100000000):okO (.mk k n b .nil .nil):=by
 unfold okO
 exact ⟨hb,by simp [Obs.len],by simp [Ens.len],by unfold okL;trivial,by unfold okE;trivial⟩
theorem okO_nul:okO nulO:=okO_plain (by simp)
def mdOk:Md → Nat → Prop
 | .val,_=>True
 | .its l,p=>okL l ∧ l.len ≤ p
 | .ens l,p=>okE l ∧ l.len ≤ p
theorem begR_ok (zs:List Int) (its ens:Nat → Nat → Rt) (t:Tk) (a d:Nat) (hb:t.b.length ≤ 1000000) (h1:∀ d,okO (its d t.q).x) (h2:∀ d,okO (ens d t.q).x):okO (begR zs its ens t a d).x:=by
 have hbb:t.b.length ≤ 100000000:=by omega
 unfold begR
 split
 ·unfold wholeR
  split <;> exact okO_plain (by simp)
 split
 ·exact okO_plain (by simp)
 split
 ·exact okO_plain hbb
 split
 ·exact okO_plain hbb
 split
 ·unfold wordR
  split
  ·exact okO_plain (by simp)
  split
  ·exact okO_plain (by simp)
  split
  ·exact okO_nul
  ·exact okO_nul
 split
 ·split
  ·exact okO_nul
  ·exact h1 _
 split
 ·split
  ·exact okO_nul
  ·exact h2 _
 split
 ·exact okO_nul
 ·exact okO_nul
theorem parF_ok (zs:List Int) (hn:zs.length ≤ 100000000):∀ (f:Nat) (m:Md) (d p:Nat),p ≤ zs.length → mdOk m p → okO (parF zs f m d p).x
 | 0,m,d,p,hp,_=>by rw [parF];exact okO_nul
 | f + 1,.val,d,p,hp,_=>by
  have ht:=tokT_q zs p hp
  rw [parF]
  split
  ·exact okO_nul
  ·exact begR_ok zs _ _ _ _ _ (tokT_len zs p) (fun d=>parF_ok zs hn f (.its .nil) d _ ht ⟨by unfold okL;trivial,by simp [Obs.len]⟩) (fun d=>parF_ok zs hn f (.ens .nil) d _ ht ⟨by unfold okE;trivial,by simp [Ens.len]⟩)
 | f + 1,.its l,d,p,hp,hm=>by
  have hb:=(blkP_le zs p hp).2
  have ht:=tokT_q zs p hp
  have hB:=begR_le zs (fun d q=>parF zs f (.its .nil) d q) (fun d q=>parF zs f (.ens .nil) d q) (tokT zs p) (blkP zs p) d ht hb (fun d=>parF_le zs f (.its .nil) d _ ht) (fun d=>parF_le zs f (.ens .nil) d _ ht)
  have hQ:=begR_q zs (fun d q=>parF zs f (.its .nil) d q) (fun d q=>parF zs f (.ens .nil) d q) (tokT zs p) (blkP zs p) d (fun d q=>parF_q zs f (.its .nil) d q) (fun d q=>parF_q zs f (.ens .nil) d q)
  have hK:=begR_k0 zs (fun d q=>parF zs f (.its .nil) d q) (fun d q=>parF zs f (.ens .nil) d q) (tokT zs p) (blkP zs p) d
  have hX:=begR_ok zs (fun d q=>parF zs f (.its .nil) d q) (fun d q=>parF zs f (.ens .nil) d q) (tokT zs p) (blkP zs p) d (tokT_len zs p) (fun d=>parF_ok zs hn f (.its .nil) d _ ht ⟨by unfold okL;trivial,by simp [Obs.len]⟩) (fun d=>parF_ok zs hn f (.ens .nil) d _ ht ⟨by unfold okE;trivial,by simp [Ens.len]⟩)
  obtain ⟨h1,h2⟩:=hm
  rw [parF]
  split
  ·exact okO_nul
  rename_i h0
  split
  ·show okO (.mk 6 0 [] l .nil)
   unfold okO
   exact ⟨by simp,by omega,by simp [Ens.len],h1,by unfold okE;trivial⟩
  split
  ·exact okO_nul
  ·rename_i hE
   have hE:=Classical.not_not.1 hE
   exact parF_ok zs hn f _ d _ hB ⟨okL_snoc l _ h1 hX,by
    rw [Obs.snoc_len]
    have:=hQ hE
    have:=tokT_gt zs p (by simpa using h0) (hK hE)
    omega⟩
 | f + 1,.ens l,d,p,hp,hm=>by
  have ht:=tokT_q zs p hp
  have hB:=parF_le zs f .val d _ ht
  have hQ:=parF_q zs f .val d (tokT zs p).q
  have hX:=parF_ok zs hn f .val d _ ht trivial
  obtain ⟨h1,h2⟩:=hm
  rw [parF]
  split
  ·exact okO_nul
  rename_i h0
  split
  ·show okO (.mk 7 0 [] .nil (dictF l .nil))
   have:=dictF_len l .nil
   rw [Ens.len] at this
   unfold okO
   exact ⟨by simp,by simp [Obs.len],by omega,by unfold okL;trivial,dictF_ok l .nil h1 (by unfold okE;trivial)⟩
  split
  ·exact okO_nul
  rename_i hk
  split
  ·exact okO_nul
  split
  ·exact okO_nul
  ·rename_i hE
   have hE:=Classical.not_not.1 hE
   exact parF_ok zs hn f _ d _ hB ⟨okE_snoc l _ _ h1 hX,by
    rw [Ens.snoc_len]
    have:=hQ hE
    have:=tokT_gt zs p (by simpa using h0) hk
    omega⟩
end
section
open Go.RowKit
def kyE (d:Ens):Prop:=∀ p ∈ d.toL,p.1.size ≤ 1000000
def gO (W D:Nat):Ob → Prop
 | .mk k n b l d=>wdO W (.mk k n b l d) ∧ htO (.mk k n b l d) ≤ D ∧ kyE d
theorem gO_wd {W D:Nat}:∀ {x:Ob},gO W D x → wdO W x ∧ htO x ≤ D
 | .mk k n b l d,h=>⟨h.1,h.2.1⟩
theorem gO_plain {W D:Nat} {k n:Int} {b:List Int} (hb:b.length ≤ 100000000) (hD:1 ≤ D):gO W D (.mk k n b .nil .nil):=by
 unfold gO wdO
 refine ⟨⟨hb,by simp [Obs.len,Ens.len],by unfold wdL;trivial,by unfold wdE;trivial⟩,by rw [htO,htL,htE];omega,fun p hp=>by simp [Ens.toL] at hp⟩
theorem gO_nul {W D:Nat} (hD:1 ≤ D):gO W D nulO:=gO_plain (by simp) hD
theorem gL_snoc (W D:Nat):∀ (l:Obs) (x:Ob),wdL W l ∧ htL l ≤ D → gO W D x → wdL W (l.snoc x) ∧ htL (l.snoc x) ≤ D
 | .nil,x,_,h=>by
  have:=gO_wd h
  unfold Obs.snoc wdL htL wdL htL
  exact ⟨⟨this.1,trivial⟩,by omega⟩
 | .cons y ys,x,hl,h=>by
  unfold wdL htL at hl
  have h2:=gL_snoc W D ys x ⟨hl.1.2,by omega⟩ h
  unfold Obs.snoc wdL htL
  exact ⟨⟨hl.1.1,h2.1⟩,by have:=h2.2;omega⟩
theorem kyE_cons {s:ByteArray} {x:Ob} {d:Ens} (hs:s.size ≤ 1000000) (hd:kyE d):kyE (.cons s x d):=fun p hp=>by
 rw [Ens.toL] at hp
 rcases List.mem_cons.1 hp with rfl | hp
 ·exact hs
 ·exact hd p hp
theorem kyE_tail {s:ByteArray} {x:Ob} {d:Ens} (h:kyE (.cons s x d)):s.size ≤ 1000000 ∧ kyE d :=
 ⟨h (s,x) (by rw [Ens.toL];exact List.mem_cons_self ..),fun p hp=>h p (by rw [Ens.toL];exact List.mem_cons_of_mem _ hp)⟩
def gE (W D:Nat) (d:Ens):Prop:=wdE W d ∧ htE d ≤ D ∧ kyE d
theorem gE_cons {W D:Nat} {s:ByteArray} {x:Ob} {d:Ens} (hs:s.size ≤ 1000000) (hx:gO W D x) (hd:gE W D d):gE W D (.cons s x d):=by
 have:=gO_wd hx
 obtain ⟨h1,h2,h3⟩:=hd
 refine ⟨by unfold wdE;exact ⟨this.1,h1⟩,by rw [htE];omega,kyE_cons hs h3⟩
theorem gE_nil {W D:Nat}:gE W D .nil:=⟨by unfold wdE;trivial,by rw [htE];omega,fun p hp=>by simp [Ens.toL] at hp⟩
theorem gE_tail {W D:Nat} {s:ByteArray} {x:Ob} {d:Ens} (h:gE W D (.cons s x d)):s.size ≤ 1000000 ∧ (wdO W x ∧ htO x ≤ D) ∧ gE W D d:=by
 obtain ⟨h1,h2,h3⟩:=h
 unfold wdE at h1
 rw [htE] at h2
 have h4:=kyE_tail h3
 exact ⟨h4.1,⟨h1.1,by omega⟩,h1.2,by omega,h4.2⟩
theorem gE_cons2 {W D:Nat} {s:ByteArray} {x:Ob} {d:Ens} (hs:s.size ≤ 1000000) (hx:wdO W x ∧ htO x ≤ D) (hd:gE W D d):gE W D (.cons s x d):=by
 obtain ⟨h1,h2,h3⟩:=hd
 refine ⟨by unfold wdE;exact ⟨hx.1,h1⟩,by rw [htE];omega,kyE_cons hs h3⟩
theorem gE_snoc (W D:Nat) (s:ByteArray) (x:Ob) (hs:s.size ≤ 1000000) (hx:gO W D x):∀ (l:Ens),gE W D l → gE W D (l.snoc s x)
 | .nil,_=>by unfold Ens.snoc;exact gE_cons hs hx gE_nil
 | .cons t y ys,h=>by
  obtain ⟨h1,h2,h3⟩:=gE_tail h
  unfold Ens.snoc
  exact gE_cons2 h1 h2 (gE_snoc W D s x hs hx ys h3)
theorem gE_with (W D:Nat) (s:ByteArray) (x:Ob) (hs:s.size ≤ 1000000) (hx:wdO W x ∧ htO x ≤ D):∀ (d:Ens) (p:Bool),gE W D d → gE W D (withE s x d p)
 | .nil,p,_=>by
  rw [withE]
  split
  ·exact gE_nil
  ·exact gE_cons2 hs hx gE_nil
 | .cons t y ys,p,hd=>by
  obtain ⟨h1,h2,h3⟩:=gE_tail hd
  have e1:=gE_with W D s x hs hx ys true h3
  have e2:=gE_with W D s x hs hx ys p h3
  rw [withE]
  split
  ·split
   ·exact gE_cons2 hs hx e1
   ·exact gE_cons2 hs hx (gE_cons2 h1 h2 e1)
  ·split
   ·exact e2
   ·exact gE_cons2 h1 h2 e2
theorem dictF_g (W D:Nat):∀ (l acc:Ens),gE W D l → gE W D acc → gE W D (dictF l acc)
 | .nil,acc,_,h=>h
 | .cons s x xs,acc,hl,h=>by
  obtain ⟨h1,h2,h3⟩:=gE_tail hl
  rw [dictF]
  exact dictF_g W D xs _ h3 (gE_with W D s x h1 h2 acc _ h)
def mdG (W d:Nat):Md → Nat → Prop
 | .val,_=>True
 | .its l,p=>(wdL W l ∧ htL l ≤ d + 1) ∧ l.len ≤ p
 | .ens l,p=>gE W (d + 1) l ∧ l.len ≤ p
def mdH (d:Nat):Md → Nat
 | .val=>d + 1
 | .its _=>d + 2
 | .ens _=>d + 2
theorem begR_g (W D:Nat) (hD:1 ≤ D) (zs:List Int) (its ens:Nat → Nat → Rt) (t:Tk) (a d:Nat) (hb:t.b.length ≤ 1000000) (h1:d ≠ 0 → gO W D (its (d - 1) t.q).x) (h2:d ≠ 0 → gO W D (ens (d - 1) t.q).x):gO W D (begR zs its ens t a d).x:=by
 have hbb:t.b.length ≤ 100000000:=by omega
 unfold begR
 split
 ·unfold wholeR
  split <;> exact gO_plain (by simp) hD
 split
 ·exact gO_plain (by simp) hD
 split
 ·exact gO_plain hbb hD
 split
 ·exact gO_plain hbb hD
 split
 ·unfold wordR
  split
  ·exact gO_plain (by simp) hD
  split
  ·exact gO_plain (by simp) hD
  split
  ·exact gO_nul hD
  ·exact gO_nul hD
 split
 ·split
  ·exact gO_nul hD
  ·rename_i h;exact h1 h
 split
 ·split
  ·exact gO_nul hD
  ·rename_i h;exact h2 h
 split
 ·exact gO_nul hD
 ·exact gO_nul hD
theorem parF_g (zs:List Int):∀ (f:Nat) (m:Md) (d p:Nat),p ≤ zs.length → mdG zs.length d m p → gO zs.length (mdH d m) (parF zs f m d p).x
 | 0,m,d,p,hp,_=>by rw [parF];exact gO_nul (by cases m <;> simp [mdH] <;> omega)
 | f + 1,.val,d,p,hp,_=>by
  have ht:=tokT_q zs p hp
  rw [parF]
  split
  ·exact gO_nul (by simp [mdH])
  ·refine begR_g _ _ (by simp [mdH]) zs _ _ _ _ _ (tokT_len zs p) (fun h=>?_) (fun h=>?_)
   ·have:=parF_g zs f (.its .nil) (d - 1) _ ht ⟨⟨by unfold wdL;trivial,by rw [htL];omega⟩,by simp [Obs.len]⟩
    rw [show mdH (d - 1) (.its .nil) = mdH d .val by simp [mdH];omega] at this
    exact this
   ·have:=parF_g zs f (.ens .nil) (d - 1) _ ht ⟨gE_nil,by simp [Ens.len]⟩
    rw [show mdH (d - 1) (.ens .nil) = mdH d .val by simp [mdH];omega] at this
    exact this
 | f + 1,.its l,d,p,hp,hm=>by
  have hb:=(blkP_le zs p hp).2
  have ht:=tokT_q zs p hp
  have hB:=begR_le zs (fun d q=>parF zs f (.its .nil) d q) (fun d q=>parF zs f (.ens .nil) d q) (tokT zs p) (blkP zs p) d ht hb (fun d=>parF_le zs f (.its .nil) d _ ht) (fun d=>parF_le zs f (.ens .nil) d _ ht)
  have hQ:=begR_q zs (fun d q=>parF zs f (.its .nil) d q) (fun d q=>parF zs f (.ens .nil) d q) (tokT zs p) (blkP zs p) d (fun d q=>parF_q zs f (.its .nil) d q) (fun d q=>parF_q zs f (.ens .nil) d q)
  have hK:=begR_k0 zs (fun d q=>parF zs f (.its .nil) d q) (fun d q=>parF zs f (.ens .nil) d q) (tokT zs p) (blkP zs p) d
  have hX:=begR_g zs.length (d + 1) (by omega) zs (fun d q=>parF zs f (.its .nil) d q) (fun d q=>parF zs f (.ens .nil) d q) (tokT zs p) (blkP zs p) d (tokT_len zs p) (fun h=>by
    have:=parF_g zs f (.its .nil) (d - 1) _ ht ⟨⟨by unfold wdL;trivial,by rw [htL];omega⟩,by simp [Obs.len]⟩
    rw [show mdH (d - 1) (.its .nil) = d + 1 by simp [mdH];omega] at this
    exact this) (fun h=>by
    have:=parF_g zs f (.ens .nil) (d - 1) _ ht ⟨gE_nil,by simp [Ens.len]⟩
    rw [show mdH (d - 1) (.ens .nil) = d + 1 by simp [mdH];omega] at this
    exact this)
  obtain ⟨h1,h2⟩:=hm
  rw [parF]
  split
  ·exact gO_nul (by simp [mdH])
  rename_i h0
  split
  ·show gO zs.length (d + 2) (.mk 6 0 [] l .nil)
   unfold gO wdO
   exact ⟨⟨by simp,by simp [Ens.len];omega,h1.1,by unfold wdE;trivial⟩,by rw [htO,htE];have:=h1.2;omega,fun p hp=>by simp [Ens.toL] at hp⟩
  split
  ·exact gO_nul (by simp [mdH])
  ·rename_i hE
   have hE:=Classical.not_not.1 hE
   exact parF_g zs f (.its (l.snoc _)) d _ hB ⟨gL_snoc _ _ l _ h1 hX,by
    rw [Obs.snoc_len]
    have:=hQ hE
    have:=tokT_gt zs p (by simpa using h0) (hK hE)
    omega⟩
 | f + 1,.ens l,d,p,hp,hm=>by
  have ht:=tokT_q zs p hp
  have hB:=parF_le zs f .val d _ ht
  have hQ:=parF_q zs f .val d (tokT zs p).q
  have hX:=parF_g zs f .val d _ ht trivial
  have hbl:=tokT_len zs p
  obtain ⟨h1,h2⟩:=hm
  rw [parF]
  split
  ·exact gO_nul (by simp [mdH])
  rename_i h0
  split
  ·show gO zs.length (d + 2) (.mk 7 0 [] .nil (dictF l .nil))
   have:=dictF_len l .nil
   rw [Ens.len] at this
   have hg:=dictF_g zs.length (d + 1) l .nil h1 gE_nil
   unfold gO wdO
   exact ⟨⟨by simp,by simp [Obs.len];omega,by unfold wdL;trivial,hg.1⟩,by rw [htO,htL];have:=hg.2.1;omega,hg.2.2⟩
  split
  ·exact gO_nul (by simp [mdH])
  rename_i hk
  split
  ·exact gO_nul (by simp [mdH])
  split
  ·exact gO_nul (by simp [mdH])
  ·rename_i hE
   have hE:=Classical.not_not.1 hE
   exact parF_g zs f (.ens (l.snoc _ _)) d _ hB ⟨gE_snoc _ _ _ _ (by rw [strOfNums_size];exact hbl) hX l h1,by
    rw [Ens.snoc_len]
    have:=hQ hE
    have:=tokT_gt zs p (by simpa using h0) hk
    omega⟩
end
end Go.Proofs.YtpomkhcobpihmaaGreat
