/- Lemmas. -/
import Derived.Test.YtpomkhcobpihmaaGreatPar31
import Derived.Test.YtpomkhcobpihmaaGreatPar34
namespace Go.Proofs.YtpomkhcobpihmaaGreat
section
open Go.RowKit
set_option linter.unusedVariables false
set_option maxRecDepth 100000
def nnE:Ens → Ens
 | .nil=>.nil
 | .cons s x xs=>if x.kind = 0 then nnE xs else .cons s x (nnE xs)
theorem nnE_toL:∀ l:Ens,(nnE l).toL = l.toL.filter (fun p=>decide (¬ p.2.kind = 0))
 | .nil=>rfl
 | .cons s x xs=>by
  rw [nnE,Ens.toL,List.filter_cons]
  by_cases h:x.kind = 0
  ·rw [if_pos h,if_neg (by simpa using h),nnE_toL xs]
  ·rw [if_neg h,if_pos (by simpa using h),Ens.toL,nnE_toL xs]
theorem toL_snoc:∀ (l:Ens) (s:ByteArray) (x:Ob),(l.snoc s x).toL = l.toL ++ [(s,x)]
 | .nil,s,x=>rfl
 | .cons t y ys,s,x=>by rw [Ens.snoc,Ens.toL,toL_snoc ys s x,Ens.toL,List.cons_append]
theorem nnE_snoc0:∀ (l:Ens) (s:ByteArray) (x:Ob),x.kind = 0 → nnE (l.snoc s x) = nnE l
 | .nil,s,x,h=>by simp [Ens.snoc,nnE,h]
 | .cons t y ys,s,x,h=>by rw [Ens.snoc,nnE,nnE,nnE_snoc0 ys s x h]
theorem nnE_snoc1:∀ (l:Ens) (s:ByteArray) (x:Ob),x.kind ≠ 0 → nnE (l.snoc s x) = (nnE l).snoc s x
 | .nil,s,x,h=>by simp [Ens.snoc,nnE,h]
 | .cons t y ys,s,x,h=>by
  rw [Ens.snoc,nnE,nnE,nnE_snoc1 ys s x h]
  split <;> rfl
theorem hasK_mem (s:ByteArray):∀ l:Ens,hasK s l = true ↔ ∃ p ∈ l.toL,p.1 = s
 | .nil=>by rw [hasK,Ens.toL];simp
 | .cons t y ys=>by
  rw [hasK,Ens.toL,Bool.or_eq_true,hasK_mem s ys]
  simp
theorem hasK_snoc (s:ByteArray):∀ (l:Ens) (t:ByteArray) (x:Ob),hasK s (l.snoc t x) = (hasK s l || decide (t = s))
 | .nil,t,x=>by simp [Ens.snoc,hasK]
 | .cons u y ys,t,x=>by rw [Ens.snoc,hasK,hasK,hasK_snoc s ys t x,Bool.or_assoc]
def DK (l:Ens):Prop:=l.toL.Pairwise (fun a b=>a.1 ≠ b.1)
theorem DK.snoc {l:Ens} (h:DK l) (s:ByteArray) (x:Ob) (hs:hasK s l = false):DK (l.snoc s x):=by
 unfold DK
 rw [toL_snoc,List.pairwise_append]
 refine ⟨h,List.pairwise_singleton _ _,fun a ha b hb e=>?_⟩
 rw [List.mem_singleton] at hb
 subst hb
 have:=(hasK_mem s l).2 ⟨a,ha,e⟩
 rw [hs] at this
 cases this
theorem lk_mem:∀ (l:List KV) (p:KV),l.Pairwise (fun a b=>a.1 ≠ b.1) → p ∈ l → lk l p.1 = some p.2
 | q :: l,p,h,hp=>by
  rw [List.pairwise_cons] at h
  rcases List.mem_cons.1 hp with rfl | hp
  ·simp [lk]
  ·have:=h.1 p hp
   simp only [lk]
   rw [if_neg this,lk_mem l p h.2 hp]
theorem dk_one {l:List KV} (h:l.Pairwise (fun a b=>a.1 ≠ b.1)) {p q:KV} (hp:p ∈ l) (hq:q ∈ l) (e:p.1 = q.1):p = q:=by
 have h1:=lk_mem l p h hp
 have h2:=lk_mem l q h hq
 rw [e,h2] at h1
 injection h1 with h1
 exact Prod.ext e h1.symm
theorem dict_sorted (l:Ens) (rs:List Rw) (hd:DK l) (hp:(rs.map prR).Perm (nnE l).toL) (hs:Srt keyR rs):rs.map prR = (dictF l .nil).toL:=by
 have hsub:((nnE l).toL).Pairwise (fun a b=>a.1 ≠ b.1):=by rw [nnE_toL];exact List.Pairwise.filter _ hd
 have hdr:(rs.map prR).Pairwise (fun a b=>a.1 ≠ b.1):=(hp.pairwise_iff (fun {_ _} h=>Ne.symm h)).2 hsub
 have hin:∀ p,p ∈ rs.map prR ↔ p ∈ l.toL ∧ ¬ p.2.kind = 0:=fun p=>by rw [hp.mem_iff,nnE_toL,List.mem_filter];simp
 have hss:SS (rs.map prR):=by
  unfold SS
  rw [List.pairwise_map] at hdr ⊢
  unfold Srt at hs
  exact (hdr.and hs).imp fun {a b} hh=>by
   cases h:ltS (prR a).1 (prR b).1 with
   | true=>rfl
   | false=>exact absurd (ltS_eq_of h hh.2) hh.1
 refine ss_ext _ _ hss (dict_ss l .nil List.Pairwise.nil) fun t=>?_
 rw [dict_lk l .nil t List.Pairwise.nil]
 cases hl:lastV l.toL t with
 | none =>
  show lk (rs.map prR) t = none
  refine lk_none _ _ fun p hpm e=>?_
  have h1:=((hin p).1 hpm).1
  unfold lastV at hl
  rw [List.getLast?_eq_none_iff] at hl
  have:p ∈ l.toL.filter (fun p=>decide (p.1 = t)):=List.mem_filter.2 ⟨h1,by simpa using e⟩
  rw [hl] at this
  cases this
 | some p =>
  unfold lastV at hl
  have hm:=List.mem_filter.1 (List.mem_of_getLast? hl)
  have hk:p.1 = t:=by simpa using hm.2
  dsimp only
  by_cases h0:p.2.kind = 0
  ·rw [if_pos h0]
   refine lk_none _ _ fun q hqm e=>?_
   have h1:=(hin q).1 hqm
   have:=dk_one hd h1.1 hm.1 (by rw [e,hk])
   subst this
   exact h1.2 h0
  ·rw [if_neg h0,← hk]
   exact lk_mem _ p hdr ((hin p).2 ⟨hm.1,h0⟩)
end
end Go.Proofs.YtpomkhcobpihmaaGreat
