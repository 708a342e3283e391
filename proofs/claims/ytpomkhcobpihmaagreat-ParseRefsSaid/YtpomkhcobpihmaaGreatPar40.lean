/- Lemmas. -/
import Derived.Shelf.SlSortCmp.WholeK
import Derived.Test.YtpomkhcobpihmaaGreatPar39
namespace Go.Proofs.YtpomkhcobpihmaaGreat
section
open Go.RowKit Go.Sort
set_option linter.unusedVariables false
set_option maxRecDepth 100000
theorem ensC_rows {w:World} {S:Nat → Prop}:∀ (l:Ens) (cs:List Value),EnsC w S l cs → ∃ rs:List Rw,rs.map prR = l.toL ∧ cs = flatR rs ∧ rs.length = l.len ∧ ∀ r ∈ rs,RwR w S r
 | .nil,cs,h=>by
  unfold EnsC at h
  exact ⟨[],rfl,h,rfl,(fun r hr=>by cases hr)⟩
 | .cons s x xs,cs,h=>by
  unfold EnsC at h
  obtain ⟨c0,c1,c2,c3,c4,rest,rfl,hx,hr⟩:=h
  obtain ⟨rs,h1,h2,h3,h4⟩:=ensC_rows xs rest hr
  obtain ⟨k,n,A2,m2,d2,A3,m3,d3,A4,m4,d4,rfl,rfl,rfl,rfl,rfl⟩:=hx.form
  refine ⟨⟨s,x,k,n,A2,m2,d2,A3,m3,d3,A4,m4,d4⟩ :: rs,by rw [List.map_cons,h1,Ens.toL],by rw [flatR_cons,← h2];rfl,by rw [List.length_cons,h3,Ens.len],fun r hr=>?_⟩
  rcases List.mem_cons.1 hr with rfl | hr
  ·exact hx
  ·exact h4 r hr
theorem OwnE.rows {w:World} {base:Nat} {AV:Option Addr} {N cV:Nat} {l:Ens} (h:OwnE noneT w base (.slice AV N cV) l) :
  l.len = N ∧ (N ≤ cV ∧ cV ≤ 9223372036854775807) ∧ ∃ rs:List Rw,rs.map prR = l.toL ∧ rs.length = N ∧ (0 < N → ∃ gb,AV = some ⟨gb,0,none⟩ ∧ base ≤ gb ∧ gb < w.heap.size ∧ HoldsK encR 6 w gb 0 rs.toArray ∧ ∀ r ∈ rs,RwR w (fun b=>(base ≤ b ∧ b < w.heap.size) ∧ b ≠ gb) r):=by
 obtain ⟨cs,h1,h2⟩:=h
 obtain ⟨rs,e1,e2,e3,e4⟩:=ensC_rows l cs h2
 obtain ⟨A',c',ev,hc,hx⟩:=row_shapeN h1
 injection ev with v1 v2 v3
 subst v1 v3
 refine ⟨v2.symm,by rw [v2];exact hc,rs,e1,e3.trans v2.symm,fun h0=>?_⟩
 obtain ⟨gb,eA,hb,hl,hcell⟩:=hx (by omega)
 subst eA
 refine ⟨gb,rfl,hb,hl,holdsK_flat (fun j u hj=>hcell j u (by rw [e2];exact hj)) ?_,fun r hr=>ObR.keep (fun _ _=>rfl) (fun b hb=>⟨⟨hb.1.elim (fun h=>h.elim) id,hb.2.1⟩,fun e=>hb.2.2 (by rw [e];rfl)⟩) r.x (e4 r hr)⟩
 rcases h1.2 with ⟨e,_⟩ | ⟨b,cap,cur,e,_,hh,_⟩
 ·cases e
 ·injection e with e
  injection e with e
  injection e with e
  subst e
  exact ⟨cur,_,hh⟩
theorem byKeyC (s t:ByteArray) (c0 c1 c2 c3 c4 d0 d1 d2 d3 d4:Value) (W:World):Calls Tryz.prog 124 #[.agg #[.string s,c0,c1,c2,c3,c4],.agg #[.string t,d0,d1,d2,d3,d4]] W fun e w'=>e = .returned (.int .i64 (cmpZ s t)) ∧ ∃ q os',w' = grow (W.drewN q) os':=by
 have hcon:=fun W'=>compareC s t W'
 generalize cmpZ s t = r at hcon ⊢
 go_enter Tryz.func124,Tryz.ntmps124
 go_wp2_with (go_at_call 138;refine (hcon _).mono ?_;rintro e w' ⟨rfl,rfl⟩)
 go_ret
 exact ⟨rfl,0,_,by rw [alloc_eq_grow,alloc_eq_grow,grow_grow];rfl⟩
theorem byKey_lays (blk off size:Nat) (w:World):CmpLays Tryz.prog 124 #[] encR 6 cfR blk off size w :=
 fun _ _ _ _ x y=>byKeyC x.s y.s _ _ _ _ _ _ _ _ _ _ _
theorem cf_lt (x y:Rw):ltOf cfR x y = ltS x.s y.s:=cmpZ_neg x.s y.s
theorem swo_key:SWO (ltOf cfR) where
 irrefl x:=by rw [cf_lt];exact ltS_irrefl _
 trans x y z h1 h2:=by rw [cf_lt] at *;exact ltS_trans h1 h2
 ntrans x y z h1 h2:=by rw [cf_lt] at *;exact ltS_le_trans h2 h1
theorem sortSomeC (rs:List Rw) (blk cap:Nat) (w:World) (hH:HoldsK encR 6 w blk 0 rs.toArray) (hblk:blk < w.heap.size) (hsz:rs.length ≤ 1000000000) :
  Calls Tryz.prog 123 #[.slice (some ⟨blk,0,none⟩) rs.length cap,.func (.func 124) #[] #[]] w fun e w'=>e = .returned (.tuple #[]) ∧ ∃ rs':List Rw,rs'.Perm rs ∧ Srt keyR rs' ∧ CellsAt w' blk 0 (flatR rs') ∧ Only blk w w':=by
 have eg:∀ args w,(callFunc 124 args).run Tryz.prog w = .ok (.enter 124 args) w:=enters_of Tryz.func124 (by kernel_rfl) rfl
 have hcon:=AnyQ.slices_SortFunc Tryz.sortE 6 Tryz.isAgg38 Tryz.sizeOf38 encR encR_len encR_one cfR swo_key 124 #[] blk 0 cap rs.toArray w eg (byKey_lays blk 0 _ w) hH hblk (by simp;omega)
 refine Calls.mono hcon fun e w' ⟨he,d',n,os,hp,hs,hw⟩=>⟨he,d'.toList,?_,?_,?_,?_⟩
 ·have hz:=hp.1
  have:=hp.2.2
  have hl:d'.toList.length = rs.length:=by simpa using hz
  rw [← hz] at this
  have h2:(List.take rs.length d'.toList).Perm rs:=by simpa [hz] using this
  rwa [List.take_of_length_le (by omega)] at h2
 ·unfold Srt
  rw [List.pairwise_iff_getElem]
  intro i j hi hj hij
  have hz:=hp.1
  have:=hs i j (Nat.zero_le _) hij (by rw [← hz];simpa using hj)
  rw [cf_lt] at this
  rw [Array.length_toList] at hi hj
  simpa [hi,hj] using this
 ·have hk:SWK encR 6 w blk 0 d' w':=⟨n,os,hw⟩
  exact flat_holdsK (hk.holds hblk hH hp.1)
 ·exact SW6.only (off:=0) (dk:=d') ⟨n,os,hw⟩
end
end Go.Proofs.YtpomkhcobpihmaaGreat
