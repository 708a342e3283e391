/- Lemmas. -/
import Derived.Shelf.SlSortCmp.NoneTotal
import Derived.Test.YtpomkhcobpihmaaGreatPar38
import Derived.Test.YtpomkhcobpihmaaGreatPar40
import Derived.Test.YtpomkhcobpihmaaGreatPar41
namespace Go.Proofs.YtpomkhcobpihmaaGreat
set_option maxRecDepth 100000
set_option linter.unusedVariables false
section
open Go.RowKit Go.Sort Go.Maps
theorem sortNoneC (A:Option Addr) (cap:Nat) (f:Value) (w:World):Calls Tryz.prog 123 #[.slice A 0 cap,f] w fun e w'=>e = .returned (.tuple #[]) ∧ w' = w :=
 AnyF.slices_SortFunc_none Tryz.sortE A cap f w
theorem ensV_nil (W:World) (S:Nat → Prop):EnsV W S .nil none 0:=⟨by simp [Ens.len],fun h=>absurd h (by simp [Ens.len])⟩
theorem sortEndC {w0 w:World} {AV:Option Addr} {N cV:Nat} {acc:Ens} (ho:OwnE noneT w (w0.heap.size + 1) (.slice AV N cV) (nnE acc)) (hd:DK acc) (hN:N ≤ 1000000000) :
  Calls Tryz.prog 123 #[.slice AV N cV,.func (.func 124) #[] #[]] w fun e w'=>e = .returned (.tuple #[]) ∧ EnsV w' (nwT w0 w') (dictF acc .nil) AV cV ∧ (dictF acc .nil).len = N ∧ Below (w0.heap.size + 1) w w':=by
 obtain ⟨hl,hc,rs,e1,e2,hx⟩:=ho.rows
 rcases Nat.eq_zero_or_pos N with h0 | h0
 ·subst h0
  have hr:rs = []:=List.eq_nil_of_length_eq_zero e2
  subst hr
  have hdd:=dict_sorted acc [] hd (by rw [← e1]) List.Pairwise.nil
  have hdn:dictF acc .nil = .nil:=by rw [← Ens.of_to (dictF acc .nil),← hdd];rfl
  refine (sortNoneC _ _ _ _).mono fun e w' ⟨he,hw⟩=>?_
  subst hw
  rw [hdn]
  exact ⟨he,⟨hc,fun h=>absurd h (by simp [Ens.len])⟩,rfl,Below.refl _ _⟩
 ·obtain ⟨gb,rfl,hb,hlt,hH,hrw⟩:=hx h0
  subst e2
  refine (sortSomeC rs gb cV w hH hlt hN).mono fun e w' ⟨he,rs',hp,hs,hcell,hon⟩=>?_
  have hdd:=dict_sorted acc rs' hd (by rw [← e1];exact hp.map prR) hs
  have hde:dictF acc .nil = Ens.ofL (rs'.map prR):=by rw [hdd,Ens.of_to]
  have hlen:(dictF acc .nil).len = rs.length:=by rw [hde,Ens.ofL_len,List.length_map];exact hp.length_eq
  have hbel:Below (w0.heap.size + 1) w w':=⟨hon.os,hon.tape,hon.output,hon.size,fun k hk=>hon.block k (by omega) (by omega)⟩
  refine ⟨he,⟨by rw [hlen];exact hc,fun _=>⟨gb,0,rfl,⟨by omega,Nat.lt_of_lt_of_le hlt hon.size⟩,?_⟩⟩,hlen,hbel⟩
  rw [hde]
  exact rows_ens rs' gb 0 hcell fun r hr=>ObR.keep (fun b hb2=>hon.block b hb2.1.2 hb2.2) (fun b hb2=>⟨by have:=hb2.1.1;omega,Nat.lt_of_lt_of_le hb2.1.2 hon.size⟩) r.x (hrw r (hp.mem_iff.1 hr))
def posW (g:Nat) (w:World):Nat:=match w.cell? ⟨g,1,none⟩ with
 | some (.int _ q)=>q.toNat
 | _=>0
theorem PX.pos {w:World} {m h g n c d p:Nat} {A:Option Addr} {zs:List Int} (x:PX w m h g A n c d zs p):posW g w = p:=by
 unfold posW
 rw [x.lx.cu.c1]
 simp
theorem size_maxLen {b:List Int} {s:ByteArray} (h:strOfNums b = s) (hb:b.length ≤ 1000000):s.size ≤ maxLen:=by
 rw [← h,strOfNums_size]
 have:maxLen = 9223372036854775807:=by decide
 omega
set_option maxHeartbeats 4000000 in
theorem entriesC {m h g n c d:Nat} {A:Option Addr} {zs:List Int} (F:Nat) (IH:∀ f,f < F → ValC m h g A n c d zs f):EnsC12 m h g A n c d zs F:=by
 intro dd w p hdd x hf
 obtain ⟨R,hR⟩:∃ R,parF zs F (.ens .nil) dd p = R:=⟨_,rfl⟩
 rw [hR]
 have HR:=lH hR
 have HX:=lH x
 have HF:=lH hf
 have HIH:=lH IH
 have HDD:=lH hdd
 have HLT:Hid (m < w.heap.size ∧ h < w.heap.size ∧ g < w.heap.size):=lH ⟨x.lt,x.lx.lt,x.lx.cu.lt⟩
 have hmm:=@run_makeMap Tryz.prog
 have hb1:=(Below.refl w.heap.size w).alloc (Nat.le_refl _) (.map #[] 0)
 have hm1:=SetS.made w
 obtain ⟨W1,hW1⟩:∃ W1,w.alloc (.map #[] 0) = W1:=⟨_,rfl⟩
 rw [hW1] at hb1 hm1
 have HB1:=lH hb1
 have HM1:=lH hm1
 have HW1:=lH hW1
 clear x hf hR IH hdd hb1 hm1 hW1
 go_enter Tryz.func110,Tryz.ntmps110
 go_wp2_with fail
 rw [HW1.out]
 go_loopw [6] (fun lv wr=>∃ (AV:Option Addr) (N cV q f' M:Nat) (l:Ens),lv = .slice AV N cV ∧ Hid ((nnE l).len = N) ∧ Hid (M ≤ q ∧ N ≤ q) ∧ Hid (PX wr m h g A n c d zs q) ∧ Hid (Only g w wr) ∧ Hid (OwnE noneT wr (w.heap.size + 1) (.slice AV N cV) (nnE l)) ∧ Hid (n - q < f' ∧ f' ≤ F) ∧ Hid (parF zs f' (.ens l) dd q = R) ∧ Hid (SetS wr w.heap.size M (fun s=>hasK s l)) ∧ Hid (DK l) ∧ Hid (w.heap.size + 1 ≤ wr.heap.size)) (fun _ wr=>n + 1 - posW g wr)
 case atStart=>exact ⟨none,0,0,p,F,0,.nil,rfl,lH rfl,lH ⟨Nat.zero_le _,Nat.zero_le _⟩,lH (HX.out.low HB1.out),lH (Only.of_below HB1.out g),lH (OwnE.nil _ _ _),lH ⟨HF.out,Nat.le_refl _⟩,HR,HM1,lH List.Pairwise.nil,lH HM1.out.lt⟩
 case round =>
  obtain ⟨AV,N,cV,q,f',M,l,rfl,HN,HNQ,HXq,HOq,HOW,HFF,HPR,HM,HDK,HBZ⟩:=hrel
  obtain ⟨f,rfl⟩:∃ f,f' = f + 1:=⟨f' - 1,by have:=HFF.out;omega⟩
  have hpr:=HPR.out
  rw [parF] at hpr
  have htk:=ptkC HXq.out
  have hgt:=tokT_gt zs q
  have hbl:=tokT_len zs q
  have hvl:(tokT zs q).e = 0 → (tokT zs q).k ≠ 0 → ∀ W,PX W m h g A n c d zs (tokT zs q).q → Calls Tryz.prog 38 #[.pointer (some ⟨m,0,none⟩),.int .i64 dd] W (VaP m h g A n c d zs W (parF zs f .val dd (tokT zs q).q)):=fun h0 hk W hW=>HIH.out f (by have:=HFF.out;omega) dd W _ HDD.out hW (by have:=tokT_gt zs q h0 hk;have:=hW.lx.pl;have:=HFF.out;omega)
  have hpq:=parF_q zs f .val dd (tokT zs q).q
  obtain ⟨V,hV⟩:∃ V,parF zs f .val dd (tokT zs q).q = V:=⟨_,rfl⟩
  rw [hV] at hvl hpr hpq
  obtain ⟨T,hT⟩:∃ T,tokT zs q = T:=⟨_,rfl⟩
  obtain ⟨bp,hbp⟩:∃ bp,blkP zs q = bp:=⟨_,rfl⟩
  have hbn:bp ≤ n:=by have:=(blkP_le zs q HXq.out.pz).2;rw [HXq.out.len,hbp] at this;exact this
  rw [hT] at hvl hpr hpq htk hgt hbl
  rw [hbp] at hpr htk
  obtain ⟨e,k,v,b,q2⟩:=T
  dsimp only at hvl hpr hpq htk hgt hbl
  obtain ⟨s,hs⟩:∃ s,strOfNums b = s:=⟨_,rfl⟩
  have HSZ:=lH (size_maxLen hs hbl)
  have HS:=lH hs
  rw [hs] at hpr
  obtain ⟨hk,hhk⟩:∃ hk,hasK s l = hk:=⟨_,rfl⟩
  have HHK:=lH hhk
  rw [hhk] at hpr
  have HTK:=lH htk
  have HBN:=lH hbn
  have k0:=HXq.out.k0
  clear hV hT hbp htk HPR hs hhk hbn hbl
  by_cases he:e = 0
  ·subst he
   rw [if_neg (by decide)] at hpr
   by_cases h8:k = 8
   ·subst h8
    rw [if_pos rfl] at hpr
    have HPR:=lH hpr
    clear hpr hpq hvl hgt
    go_upto_region 4 with (first
     | (go_at_call 50;refine HTK.out.mono ?_;(rintro r w3 ⟨A3,l3,c3,rfl,hx3,ho3,hy3,hf3⟩);have HX3:=lH hx3;have HO3:=lH ho3;have HY3:=lH hy3;clear hx3 ho3 hy3 hf3))
    have hn4:=Bx.new w3 95 (.int .i64 8) (.int .i64 bp) (.int .i64 v) (.slice A3 l3 c3)
    have hx4:=HX3.out.alloc (.cells #[.int .i64 8,.int .i64 bp,.int .i64 v,.slice A3 l3 c3] 95)
    have ho4:=HO3.out.alloc (.cells #[.int .i64 8,.int .i64 bp,.int .i64 v,.slice A3 l3 c3] 95)
    have hy4:=HY3.out.alloc (Nat.le_refl _) (.cells #[.int .i64 8,.int .i64 bp,.int .i64 v,.slice A3 l3 c3] 95)
    obtain ⟨w4,hw4⟩:∃ w4,w3.alloc (.cells #[.int .i64 8,.int .i64 bp,.int .i64 v,.slice A3 l3 c3] 95) = w4:=⟨_,rfl⟩
    have hs4:w3.heap.size ≤ w4.heap.size:=by rw [← hw4];simp
    rw [hw4] at hn4 hx4 ho4 hy4
    rw [hw4]
    have t0:=hn4.c0
    have t1:=hn4.c1
    have t2:=hn4.c2
    have t3:=hn4.c3
    have HN4:=lH hn4
    have HX4:=lH hx4
    have HO4:=lH ho4
    have HY4:=lH (hy4.more hs4)
    have HOW4:=lH (HOW.out.keepB ho4 (Nat.lt_succ_of_lt HLT.out.2.2) (fun h=>h))
    have HOG4:=lH (HOq.out.trans ho4)
    clear hn4 hx4 ho4 hy4 hw4 hs4
    have HSE:=lH (sortEndC HOW4.out HDK.out (by have:=HNQ.out;have:=HXq.out.lx.pl;have:=HXq.out.sm;omega))
    go_wp2_with (first
     | (go_at_call 123;refine HSE.out.mono ?_;(rintro r w6 ⟨rfl,hev,hln,hbl⟩);have HEV:=lH hev;have HLN:=lH hln;have HB6:=lH hbl;clear hev hln hbl))
    go_ret2
    rw [← HPR.out]
    exact ⟨AV,cV,dictF l .nil,by rw [HLN.out];rfl,fun _=>rfl,fun h=>absurd rfl h,HEV.out,HX4.out.lowB HB6.out (Nat.lt_succ_of_lt HLT.out.1) (Nat.lt_succ_of_lt HLT.out.2.1) (Nat.lt_succ_of_lt HLT.out.2.2),HOG4.out.lowB (HB6.out.mono (Nat.le_succ _))⟩
   ·rw [if_neg h8] at hpr
    have h8b:(k == 8) = false:=beq_eq_false_iff_ne.2 h8
    clear h8
    by_cases hC:k ≠ 4 ∨ hk = true
    ·have hR:noR (wrgZ k) bp = R:=by
      unfold wrgZ
      by_cases h0:k = 0
      ·rw [if_pos h0] at hpr ⊢;exact hpr
      ·rw [if_neg h0] at hpr ⊢
       rw [if_pos hC] at hpr
       exact hpr
     have HPR:=lH hR
     have hWN:wrgZ k ≠ 0:=by unfold wrgZ;split <;> decide
     have HWN:=lH hWN
     clear hpr hpq hvl hgt hR hWN
     rcases hk with _ | _
     ·have h4:k ≠ 4:=hC.elim id (fun h=>by cases h)
      have h4b:(k == 4) = false:=beq_eq_false_iff_ne.2 h4
      clear hC h4
      go_upto_region 4 with (first
       | (go_at_call 50;refine HTK.out.mono ?_;(rintro r w3 ⟨A3,l3,c3,rfl,hx3,ho3,hy3,hf3⟩);have HX3:=lH hx3;have HO3:=lH ho3;have HY3:=lH hy3;clear hx3 ho3 hy3 hf3))
      have hn4:=Bx.new w3 95 (.int .i64 k) (.int .i64 bp) (.int .i64 v) (.slice A3 l3 c3)
      have hx4:=HX3.out.alloc (.cells #[.int .i64 k,.int .i64 bp,.int .i64 v,.slice A3 l3 c3] 95)
      have ho4:=HO3.out.alloc (.cells #[.int .i64 k,.int .i64 bp,.int .i64 v,.slice A3 l3 c3] 95)
      have hy4:=HY3.out.alloc (Nat.le_refl _) (.cells #[.int .i64 k,.int .i64 bp,.int .i64 v,.slice A3 l3 c3] 95)
      obtain ⟨w4,hw4⟩:∃ w4,w3.alloc (.cells #[.int .i64 k,.int .i64 bp,.int .i64 v,.slice A3 l3 c3] 95) = w4:=⟨_,rfl⟩
      have hs4:w3.heap.size ≤ w4.heap.size:=by rw [← hw4];simp
      rw [hw4] at hn4 hx4 ho4 hy4
      rw [hw4]
      have t0:=hn4.c0
      have t1:=hn4.c1
      have t2:=hn4.c2
      have t3:=hn4.c3
      have HN4:=lH hn4
      have HX4:=lH hx4
      have HO4:=lH ho4
      have HY4:=lH (hy4.more hs4)
      have HOW4:=lH (HOW.out.keepB ho4 (Nat.lt_succ_of_lt HLT.out.2.2) (fun h=>h))
      have HOG4:=lH (HOq.out.trans ho4)
      clear hn4 hx4 ho4 hy4 hw4 hs4
      have HM4:=lH (HM.out.keep (HO4.out.block w.heap.size HM.out.lt (Nat.ne_of_gt HLT.out.2.2)))
      have hcv:=conv_str HY4.out _ rfl
      rw [HS.out] at hcv
      have hlk:=HM4.out.look s HSZ.out
      rw [HHK.out] at hlk
      have k4:=HX4.out.k0
      go_upto_region 11 with (first
       | (at_lookup;refine wpList_lookup_run rfl _ _ _ rfl _ _ _ rfl rfl hlk ?_))
      have hb5:=(Below.refl w4.heap.size w4).alloc (Nat.le_refl _) (.cells #[] 130)
      obtain ⟨w5,hw5⟩:∃ w5,w4.alloc (.cells #[] 130) = w5:=⟨_,rfl⟩
      rw [hw5] at hb5
      rw [hw5]
      have HX5:=lH (HX4.out.low hb5)
      have HO5:=lH (HOG4.out.trans (Only.of_below hb5 g))
      have HOW5:=lH (HOW4.out.low hb5)
      have HM5:=lH (HM4.out.keep (hb5.block w.heap.size HM4.out.lt))
      have HN5:=lH (HN4.out.below hb5 HN4.out.lt)
      have HSM5:=lH hb5.size
      clear t0 t1 t2 t3 hcv hlk hb5 hw5
      have t0:=HN5.out.c0
      have t1:=HN5.out.c1
      have t2:=HN5.out.c2
      have t3:=HN5.out.c3
      have k5:=HX5.out.k0
      have HWR:=lH (wrongC HX5.out k v bp A3 l3 c3 HBN.out)
      obtain ⟨WZ,hWZ⟩:∃ WZ,wrgZ k = WZ:=⟨_,rfl⟩
      rw [hWZ] at HWR HPR HWN
      clear hWZ
      go_wp2_with (first
       | (go_at_call 51;refine HWR.out.mono ?_;(rintro r w6 ⟨rfl,hx6,ho6⟩);have HX6:=lH hx6;have HO6:=lH ho6;clear hx6 ho6))
      go_ret2
      rw [← HPR.out]
      exact ⟨none,0,.nil,rfl,fun h=>absurd h HWN.out,fun _=>rfl,ensV_nil _ _,HX6.out,HO5.out.trans HO6.out⟩
     ·clear hC
      go_upto_region 4 with (first
       | (go_at_call 50;refine HTK.out.mono ?_;(rintro r w3 ⟨A3,l3,c3,rfl,hx3,ho3,hy3,hf3⟩);have HX3:=lH hx3;have HO3:=lH ho3;have HY3:=lH hy3;clear hx3 ho3 hy3 hf3))
      have hn4:=Bx.new w3 95 (.int .i64 k) (.int .i64 bp) (.int .i64 v) (.slice A3 l3 c3)
      have hx4:=HX3.out.alloc (.cells #[.int .i64 k,.int .i64 bp,.int .i64 v,.slice A3 l3 c3] 95)
      have ho4:=HO3.out.alloc (.cells #[.int .i64 k,.int .i64 bp,.int .i64 v,.slice A3 l3 c3] 95)
      have hy4:=HY3.out.alloc (Nat.le_refl _) (.cells #[.int .i64 k,.int .i64 bp,.int .i64 v,.slice A3 l3 c3] 95)
      obtain ⟨w4,hw4⟩:∃ w4,w3.alloc (.cells #[.int .i64 k,.int .i64 bp,.int .i64 v,.slice A3 l3 c3] 95) = w4:=⟨_,rfl⟩
      have hs4:w3.heap.size ≤ w4.heap.size:=by rw [← hw4];simp
      rw [hw4] at hn4 hx4 ho4 hy4
      rw [hw4]
      have t0:=hn4.c0
      have t1:=hn4.c1
      have t2:=hn4.c2
      have t3:=hn4.c3
      have HN4:=lH hn4
      have HX4:=lH hx4
      have HO4:=lH ho4
      have HY4:=lH (hy4.more hs4)
      have HOW4:=lH (HOW.out.keepB ho4 (Nat.lt_succ_of_lt HLT.out.2.2) (fun h=>h))
      have HOG4:=lH (HOq.out.trans ho4)
      clear hn4 hx4 ho4 hy4 hw4 hs4
      have HM4:=lH (HM.out.keep (HO4.out.block w.heap.size HM.out.lt (Nat.ne_of_gt HLT.out.2.2)))
      have hcv:=conv_str HY4.out _ rfl
      rw [HS.out] at hcv
      have hlk:=HM4.out.look s HSZ.out
      rw [HHK.out] at hlk
      have k4:=HX4.out.k0
      go_upto_region 11 with (first
       | (at_lookup;refine wpList_lookup_run rfl _ _ _ rfl _ _ _ rfl rfl hlk ?_))
      have hb5:=(Below.refl w4.heap.size w4).alloc (Nat.le_refl _) (.cells #[] 130)
      obtain ⟨w5,hw5⟩:∃ w5,w4.alloc (.cells #[] 130) = w5:=⟨_,rfl⟩
      rw [hw5] at hb5
      rw [hw5]
      have HX5:=lH (HX4.out.low hb5)
      have HO5:=lH (HOG4.out.trans (Only.of_below hb5 g))
      have HOW5:=lH (HOW4.out.low hb5)
      have HM5:=lH (HM4.out.keep (hb5.block w.heap.size HM4.out.lt))
      have HN5:=lH (HN4.out.below hb5 HN4.out.lt)
      have HSM5:=lH hb5.size
      clear t0 t1 t2 t3 hcv hlk hb5 hw5
      have t0:=HN5.out.c0
      have t1:=HN5.out.c1
      have t2:=HN5.out.c2
      have t3:=HN5.out.c3
      have k5:=HX5.out.k0
      have HWR:=lH (wrongC HX5.out k v bp A3 l3 c3 HBN.out)
      obtain ⟨WZ,hWZ⟩:∃ WZ,wrgZ k = WZ:=⟨_,rfl⟩
      rw [hWZ] at HWR HPR HWN
      clear hWZ
      go_wp2_with (first
       | (go_at_call 51;refine HWR.out.mono ?_;(rintro r w6 ⟨rfl,hx6,ho6⟩);have HX6:=lH hx6;have HO6:=lH ho6;clear hx6 ho6))
      go_ret2
      rw [← HPR.out]
      exact ⟨none,0,.nil,rfl,fun h=>absurd h HWN.out,fun _=>rfl,ensV_nil _ _,HX6.out,HO5.out.trans HO6.out⟩
    ·obtain ⟨rfl,rfl⟩:k = 4 ∧ hk = false:=by
      constructor
      ·exact Classical.byContradiction fun h=>hC (.inl h)
      ·cases hk with
       | false=>rfl
       | true=>exact absurd (.inr rfl) hC
     rw [if_neg (by decide),if_neg hC] at hpr
     have HVL:=lH (hvl rfl (by decide))
     have HGT:=lH (hgt rfl (by decide))
     clear hvl hgt hC
     by_cases hE:V.e = 0
     ·rw [if_neg (fun h=>h hE)] at hpr
      have HPQ:=lH (hpq hE)
      have HPR:=lH hpr
      obtain ⟨E,X,q5⟩:=V
      dsimp only at hE HPQ HPR
      subst hE
      clear hpr hpq
      go_upto_region 4 with (first
       | (go_at_call 50;refine HTK.out.mono ?_;(rintro r w3 ⟨A3,l3,c3,rfl,hx3,ho3,hy3,hf3⟩);have HX3:=lH hx3;have HO3:=lH ho3;have HY3:=lH hy3;clear hx3 ho3 hy3 hf3))
      have hn4:=Bx.new w3 95 (.int .i64 4) (.int .i64 bp) (.int .i64 v) (.slice A3 l3 c3)
      have hx4:=HX3.out.alloc (.cells #[.int .i64 4,.int .i64 bp,.int .i64 v,.slice A3 l3 c3] 95)
      have ho4:=HO3.out.alloc (.cells #[.int .i64 4,.int .i64 bp,.int .i64 v,.slice A3 l3 c3] 95)
      have hy4:=HY3.out.alloc (Nat.le_refl _) (.cells #[.int .i64 4,.int .i64 bp,.int .i64 v,.slice A3 l3 c3] 95)
      obtain ⟨w4,hw4⟩:∃ w4,w3.alloc (.cells #[.int .i64 4,.int .i64 bp,.int .i64 v,.slice A3 l3 c3] 95) = w4:=⟨_,rfl⟩
      have hs4:w3.heap.size ≤ w4.heap.size:=by rw [← hw4];simp
      rw [hw4] at hn4 hx4 ho4 hy4
      rw [hw4]
      have t0:=hn4.c0
      have t1:=hn4.c1
      have t2:=hn4.c2
      have t3:=hn4.c3
      have HN4:=lH hn4
      have HX4:=lH hx4
      have HO4:=lH ho4
      have HY4:=lH (hy4.more hs4)
      have HOW4:=lH (HOW.out.keepB ho4 (Nat.lt_succ_of_lt HLT.out.2.2) (fun h=>h))
      have HOG4:=lH (HOq.out.trans ho4)
      clear hn4 hx4 ho4 hy4 hw4 hs4
      have HM4:=lH (HM.out.keep (HO4.out.block w.heap.size HM.out.lt (Nat.ne_of_gt HLT.out.2.2)))
      have hcv:=conv_str HY4.out _ rfl
      rw [HS.out] at hcv
      have hlk:=HM4.out.look s HSZ.out
      rw [HHK.out] at hlk
      have k4:=HX4.out.k0
      go_upto_region 11 with (first
       | (at_lookup;refine wpList_lookup_run rfl _ _ _ rfl _ _ _ rfl rfl hlk ?_))
      have hb5:=(Below.refl w4.heap.size w4).alloc (Nat.le_refl _) (.cells #[] 130)
      obtain ⟨w5,hw5⟩:∃ w5,w4.alloc (.cells #[] 130) = w5:=⟨_,rfl⟩
      rw [hw5] at hb5
      rw [hw5]
      have HX5:=lH (HX4.out.low hb5)
      have HO5:=lH (HOG4.out.trans (Only.of_below hb5 g))
      have HOW5:=lH (HOW4.out.low hb5)
      have HM5:=lH (HM4.out.keep (hb5.block w.heap.size HM4.out.lt))
      have HN5:=lH (HN4.out.below hb5 HN4.out.lt)
      have HSM5:=lH hb5.size
      clear t0 t1 t2 t3 hcv hlk hb5 hw5
      have t0:=HN5.out.c0
      have t1:=HN5.out.c1
      have t2:=HN5.out.c2
      have t3:=HN5.out.c3
      have k5:=HX5.out.k0
      obtain ⟨w6,hrun6,hm6,ho6⟩:=HM5.out.put s HSZ.out (by have:=HNQ.out;have:=HXq.out.lx.pl;have:=HXq.out.sm;unfold maxLen;omega)
      have hb6:=ho6.below (Nat.le_of_lt HM5.out.lt)
      have HX6:=lH (HX5.out.lowB hb6 HLT.out.1 HLT.out.2.1 HLT.out.2.2)
      have HOW6:=lH (HOW5.out.keepB ho6 (Nat.lt_succ_self _) (fun h=>h))
      have HO6:=lH (HO5.out.lowB hb6)
      have HM6:=lH hm6
      have HBZ6:Hid (w.heap.size + 1 ≤ w6.heap.size):=lH (Nat.le_trans (Nat.le_trans HBZ.out (Nat.le_trans HO4.out.size HSM5.out)) ho6.size)
      have k6:=HX6.out.k0
      go_upto_region 14 with (first
       | (at_mapUpdate;refine wpList_mapUpdate_run rfl _ _ _ _ rfl _ _ _ rfl rfl rfl hrun6 ?_))
      clear hrun6 hm6 ho6 hb6
      go_upto_region 15 with (first
       | (go_at_call 38;refine (HVL.out _ HX6.out).mono ?_;(rintro r w7 ⟨d0,d1,d2,d3,d4,hrr,hob,hx7,ho7⟩);(try dsimp only at hrr hob hx7);subst hrr;obtain ⟨k7,n7,A5,m5,e5,A6,m6,e6,A7,m7,e7,rfl,rfl,rfl,rfl,rfl⟩:=hob.shp;have HOB:=lH hob;have HX7:=lH hx7;have HO7:=lH ho7;clear hob hx7 ho7))
      have hk7:=kind_c0 HOB.out
      have HK7:Hid (k7 = X.kind):=lH (by injection hk7)
      have hb8:=(Below.refl w7.heap.size w7).alloc (Nat.le_refl _) (.cells #[.int .i64 k7,.int .i64 n7,.slice A5 m5 e5,.slice A6 m6 e6,.slice A7 m7 e7] 27)
      have hn8:=heap_alloc_new w7 (.cells #[.int .i64 k7,.int .i64 n7,.slice A5 m5 e5,.slice A6 m6 e6,.slice A7 m7 e7] 27)
      obtain ⟨w8,hw8⟩:∃ w8,w7.alloc (.cells #[.int .i64 k7,.int .i64 n7,.slice A5 m5 e5,.slice A6 m6 e6,.slice A7 m7 e7] 27) = w8:=⟨_,rfl⟩
      rw [hw8] at hb8 hn8
      rw [hw8]
      have c0:w8.cell? ⟨w7.heap.size,0,none⟩ = some (.int .i64 k7):=cell_of_row _ _ 0 _ _ (0,0) hn8
      have c1:w8.cell? ⟨w7.heap.size,1,none⟩ = some (.int .i64 n7):=cell_of_row _ _ 1 _ _ (0,0) hn8
      have c2:w8.cell? ⟨w7.heap.size,2,none⟩ = some (.slice A5 m5 e5):=cell_of_row _ _ 2 _ _ (0,0) hn8
      have c3:w8.cell? ⟨w7.heap.size,3,none⟩ = some (.slice A6 m6 e6):=cell_of_row _ _ 3 _ _ (0,0) hn8
      have c4:w8.cell? ⟨w7.heap.size,4,none⟩ = some (.slice A7 m7 e7):=cell_of_row _ _ 4 _ _ (0,0) hn8
      have HB8:=lH hb8
      have HX8:=lH (HX7.out.low hb8)
      have HO8:=lH ((HO6.out.trans HO7.out).trans (Only.of_below hb8 g))
      have HM8:=lH ((HM6.out.keep (HO7.out.block _ HM6.out.lt (Nat.ne_of_gt HLT.out.2.2))).keep (hb8.block _ (Nat.lt_of_lt_of_le HM6.out.lt HO7.out.size)))
      have HFE:Hid ((fun t=>hasK t (l.snoc s X)) = (fun t=>hasK t l || decide (s = t))):=lH (funext fun t=>hasK_snoc t l s X)
      have HBZ8:Hid (w.heap.size + 1 ≤ w8.heap.size):=lH (Nat.le_trans HBZ6.out (Nat.le_trans HO7.out.size hb8.size))
      clear hk7 hb8 hn8 hw8
      by_cases hz:X.kind = 0
      ·have hkk:k7 = 0:=by rw [HK7.out];exact hz
       subst hkk
       have HZ:=lH hz
       clear hz
       go_wp2_with fail
       go_roundw
       case rel=>exact ⟨AV,N,cV,q5,f,M + 1,l.snoc s X,rfl,lH (by rw [nnE_snoc0 l s X HZ.out];exact HN.out),lH (by have:=HNQ.out;have:=HPQ.out;have:=HGT.out;omega),HX8,HO8,lH (by rw [nnE_snoc0 l s X HZ.out];exact (HOW6.out.keepB HO7.out (Nat.lt_succ_of_lt HLT.out.2.2) (fun h=>h)).low HB8.out),lH (by have:=HFF.out;have:=HPQ.out;have:=HGT.out;have:=HX8.out.lx.pl;omega),HPR,lH (by rw [HFE.out];exact HM8.out),lH (HDK.out.snoc s X HHK.out),HBZ8⟩
       case measure=>have:=HX8.out.pos;have:=HXq.out.pos;have:=HPQ.out;have:=HGT.out;have:=HX8.out.lx.pl;omega
      ·have hkk:(k7 == 0) = false:=beq_eq_false_iff_ne.2 (by rw [HK7.out];exact hz)
       have HZ:=lH hz
       have hap:=OwnE.litG HOW6.out HO7.out (Nat.lt_succ_of_lt HLT.out.2.2) (fun h=>h) HB8.out s X HOB.out (by rw [HN.out];have:=HNQ.out;have:=HXq.out.lx.pl;have:=HXq.out.sm;omega) HBZ6.out (fun _ h=>h.elim)
       rw [HN.out] at hap
       have HAP:=lH hap
       clear hz hap
       go_wp2_with (first
        | (at_builtin;obtain ⟨A9,c9,w9,hrun,ho9,hb9⟩:=HAP.out;refine Lib.wpList_append_run_sl _ rfl (.tmp 65) (.tmp 69) 25 rfl _ _ rfl rfl hrun ?_;clear hrun;have HOW9:=lH ho9;have HB9:=lH hb9;clear ho9 hb9))
       go_roundw
       case rel=>exact ⟨A9,N + 1,c9,q5,f,M + 1,l.snoc s X,rfl,lH (by rw [nnE_snoc1 l s X HZ.out,Ens.snoc_len,HN.out]),lH (by have:=HNQ.out;have:=HPQ.out;have:=HGT.out;omega),lH (HX8.out.lowB HB9.out (Nat.lt_succ_of_lt HLT.out.1) (Nat.lt_succ_of_lt HLT.out.2.1) (Nat.lt_succ_of_lt HLT.out.2.2)),lH (HO8.out.lowB (HB9.out.mono (Nat.le_succ _))),lH (by rw [nnE_snoc1 l s X HZ.out];exact HOW9.out),lH (by have:=HFF.out;have:=HPQ.out;have:=HGT.out;have:=HX8.out.lx.pl;omega),HPR,lH (by rw [HFE.out];exact HM8.out.keep (HB9.out.block _ (Nat.lt_succ_self _))),lH (HDK.out.snoc s X HHK.out),lH (Nat.le_trans HBZ8.out HB9.out.size)⟩
       case measure=>have:=(HX8.out.lowB HB9.out (Nat.lt_succ_of_lt HLT.out.1) (Nat.lt_succ_of_lt HLT.out.2.1) (Nat.lt_succ_of_lt HLT.out.2.2)).pos;have:=HXq.out.pos;have:=HPQ.out;have:=HGT.out;have:=HX8.out.lx.pl;omega
     ·rw [if_pos hE] at hpr
      have HPR:=lH hpr
      obtain ⟨E,X,q5⟩:=V
      dsimp only at hE HPR
      have hEb:(E == 0) = false:=beq_eq_false_iff_ne.2 hE
      have HE:=lH hE
      clear hpr hpq hE
      go_upto_region 4 with (first
       | (go_at_call 50;refine HTK.out.mono ?_;(rintro r w3 ⟨A3,l3,c3,rfl,hx3,ho3,hy3,hf3⟩);have HX3:=lH hx3;have HO3:=lH ho3;have HY3:=lH hy3;clear hx3 ho3 hy3 hf3))
      have hn4:=Bx.new w3 95 (.int .i64 4) (.int .i64 bp) (.int .i64 v) (.slice A3 l3 c3)
      have hx4:=HX3.out.alloc (.cells #[.int .i64 4,.int .i64 bp,.int .i64 v,.slice A3 l3 c3] 95)
      have ho4:=HO3.out.alloc (.cells #[.int .i64 4,.int .i64 bp,.int .i64 v,.slice A3 l3 c3] 95)
      have hy4:=HY3.out.alloc (Nat.le_refl _) (.cells #[.int .i64 4,.int .i64 bp,.int .i64 v,.slice A3 l3 c3] 95)
      obtain ⟨w4,hw4⟩:∃ w4,w3.alloc (.cells #[.int .i64 4,.int .i64 bp,.int .i64 v,.slice A3 l3 c3] 95) = w4:=⟨_,rfl⟩
      have hs4:w3.heap.size ≤ w4.heap.size:=by rw [← hw4];simp
      rw [hw4] at hn4 hx4 ho4 hy4
      rw [hw4]
      have t0:=hn4.c0
      have t1:=hn4.c1
      have t2:=hn4.c2
      have t3:=hn4.c3
      have HN4:=lH hn4
      have HX4:=lH hx4
      have HO4:=lH ho4
      have HY4:=lH (hy4.more hs4)
      have HOW4:=lH (HOW.out.keepB ho4 (Nat.lt_succ_of_lt HLT.out.2.2) (fun h=>h))
      have HOG4:=lH (HOq.out.trans ho4)
      clear hn4 hx4 ho4 hy4 hw4 hs4
      have HM4:=lH (HM.out.keep (HO4.out.block w.heap.size HM.out.lt (Nat.ne_of_gt HLT.out.2.2)))
      have hcv:=conv_str HY4.out _ rfl
      rw [HS.out] at hcv
      have hlk:=HM4.out.look s HSZ.out
      rw [HHK.out] at hlk
      have k4:=HX4.out.k0
      go_upto_region 11 with (first
       | (at_lookup;refine wpList_lookup_run rfl _ _ _ rfl _ _ _ rfl rfl hlk ?_))
      have hb5:=(Below.refl w4.heap.size w4).alloc (Nat.le_refl _) (.cells #[] 130)
      obtain ⟨w5,hw5⟩:∃ w5,w4.alloc (.cells #[] 130) = w5:=⟨_,rfl⟩
      rw [hw5] at hb5
      rw [hw5]
      have HX5:=lH (HX4.out.low hb5)
      have HO5:=lH (HOG4.out.trans (Only.of_below hb5 g))
      have HOW5:=lH (HOW4.out.low hb5)
      have HM5:=lH (HM4.out.keep (hb5.block w.heap.size HM4.out.lt))
      have HN5:=lH (HN4.out.below hb5 HN4.out.lt)
      have HSM5:=lH hb5.size
      clear t0 t1 t2 t3 hcv hlk hb5 hw5
      have t0:=HN5.out.c0
      have t1:=HN5.out.c1
      have t2:=HN5.out.c2
      have t3:=HN5.out.c3
      have k5:=HX5.out.k0
      obtain ⟨w6,hrun6,hm6,ho6⟩:=HM5.out.put s HSZ.out (by have:=HNQ.out;have:=HXq.out.lx.pl;have:=HXq.out.sm;unfold maxLen;omega)
      have hb6:=ho6.below (Nat.le_of_lt HM5.out.lt)
      have HX6:=lH (HX5.out.lowB hb6 HLT.out.1 HLT.out.2.1 HLT.out.2.2)
      have HOW6:=lH (HOW5.out.keepB ho6 (Nat.lt_succ_self _) (fun h=>h))
      have HO6:=lH (HO5.out.lowB hb6)
      have HM6:=lH hm6
      have HBZ6:Hid (w.heap.size + 1 ≤ w6.heap.size):=lH (Nat.le_trans (Nat.le_trans HBZ.out (Nat.le_trans HO4.out.size HSM5.out)) ho6.size)
      have k6:=HX6.out.k0
      go_upto_region 14 with (first
       | (at_mapUpdate;refine wpList_mapUpdate_run rfl _ _ _ _ rfl _ _ _ rfl rfl rfl hrun6 ?_))
      clear hrun6 hm6 ho6 hb6
      go_upto_region 15 with (first
       | (go_at_call 38;refine (HVL.out _ HX6.out).mono ?_;(rintro r w7 ⟨d0,d1,d2,d3,d4,hrr,hob,hx7,ho7⟩);(try dsimp only at hrr hob hx7);subst hrr;obtain ⟨k7,n7,A5,m5,e5,A6,m6,e6,A7,m7,e7,rfl,rfl,rfl,rfl,rfl⟩:=hob.shp;have HOB:=lH hob;have HX7:=lH hx7;have HO7:=lH ho7;clear hob hx7 ho7))
      have hk7:=kind_c0 HOB.out
      have HK7:Hid (k7 = X.kind):=lH (by injection hk7)
      have hb8:=(Below.refl w7.heap.size w7).alloc (Nat.le_refl _) (.cells #[.int .i64 k7,.int .i64 n7,.slice A5 m5 e5,.slice A6 m6 e6,.slice A7 m7 e7] 27)
      have hn8:=heap_alloc_new w7 (.cells #[.int .i64 k7,.int .i64 n7,.slice A5 m5 e5,.slice A6 m6 e6,.slice A7 m7 e7] 27)
      obtain ⟨w8,hw8⟩:∃ w8,w7.alloc (.cells #[.int .i64 k7,.int .i64 n7,.slice A5 m5 e5,.slice A6 m6 e6,.slice A7 m7 e7] 27) = w8:=⟨_,rfl⟩
      rw [hw8] at hb8 hn8
      rw [hw8]
      have c0:w8.cell? ⟨w7.heap.size,0,none⟩ = some (.int .i64 k7):=cell_of_row _ _ 0 _ _ (0,0) hn8
      have c1:w8.cell? ⟨w7.heap.size,1,none⟩ = some (.int .i64 n7):=cell_of_row _ _ 1 _ _ (0,0) hn8
      have c2:w8.cell? ⟨w7.heap.size,2,none⟩ = some (.slice A5 m5 e5):=cell_of_row _ _ 2 _ _ (0,0) hn8
      have c3:w8.cell? ⟨w7.heap.size,3,none⟩ = some (.slice A6 m6 e6):=cell_of_row _ _ 3 _ _ (0,0) hn8
      have c4:w8.cell? ⟨w7.heap.size,4,none⟩ = some (.slice A7 m7 e7):=cell_of_row _ _ 4 _ _ (0,0) hn8
      have HB8:=lH hb8
      have HX8:=lH (HX7.out.low hb8)
      have HO8:=lH ((HO6.out.trans HO7.out).trans (Only.of_below hb8 g))
      have HM8:=lH ((HM6.out.keep (HO7.out.block _ HM6.out.lt (Nat.ne_of_gt HLT.out.2.2))).keep (hb8.block _ (Nat.lt_of_lt_of_le HM6.out.lt HO7.out.size)))
      have HFE:Hid ((fun t=>hasK t (l.snoc s X)) = (fun t=>hasK t l || decide (s = t))):=lH (funext fun t=>hasK_snoc t l s X)
      have HBZ8:Hid (w.heap.size + 1 ≤ w8.heap.size):=lH (Nat.le_trans HBZ6.out (Nat.le_trans HO7.out.size hb8.size))
      clear hk7 hb8 hn8 hw8
      go_wp2_with fail
      go_ret2
      rw [← HPR.out]
      exact ⟨none,0,.nil,rfl,fun h=>absurd h HE.out,fun _=>rfl,ensV_nil _ _,HX8.out,HO8.out⟩
  ·rw [if_pos he] at hpr
   have HPR:=lH hpr
   have heb:(e == 0) = false:=beq_eq_false_iff_ne.2 he
   have HE:=lH he
   clear hpr hpq hvl hgt he
   go_wp2_with (first
    | (go_at_call 50;refine HTK.out.mono ?_;(rintro r w3 ⟨A3,l3,c3,rfl,hx3,ho3,hy3,hf3⟩);have HX3:=lH hx3;have HO3:=lH ho3;clear hx3 ho3 hy3 hf3))
   go_ret2
   rw [← HPR.out]
   exact ⟨none,0,.nil,rfl,fun h=>absurd h HE.out,fun _=>rfl,ensV_nil _ _,HX3.out.alloc _,(HOq.out.trans HO3.out).alloc _⟩
end
section
open Go.RowKit
theorem parC (m h g:Nat) (A:Option Addr) (n c d:Nat) (zs:List Int):∀ F,ItsC m h g A n c d zs F ∧ EnsC12 m h g A n c d zs F ∧ ValC m h g A n c d zs F:=by
 intro F
 induction F using Nat.strongRecOn with
 | _ F ih =>
  refine ⟨itemsC F fun f hf=>⟨(ih f hf).1,(ih f hf).2.1⟩,entriesC F fun f hf=>(ih f hf).2.2,?_⟩
  cases F with
  | zero=>exact fun _ _ _ _ _ hf=>absurd hf (Nat.not_lt_zero _)
  | succ f=>exact valueC f ⟨(ih f (Nat.lt_succ_self f)).1,(ih f (Nat.lt_succ_self f)).2.1⟩
def dpZ (d:Int):Nat:=if d < 0 then 0 else if 28 < d then 28 else d.toNat
theorem dpZ_le (d:Int):dpZ d ≤ 28:=by unfold dpZ;split <;> (try split) <;> omega
theorem emptyC {w:World} {m h g n c d p:Nat} {A:Option Addr} {zs:List Int} (x:PX w m h g A n c d zs p) :
  Calls Tryz.prog 26 #[.pointer (some ⟨m,0,none⟩)] w fun r w'=>r = .returned (.bool false) ∧ w = w':=by
 have k0:=x.k0
 clear x
 go_enter Tryz.func26,Tryz.ntmps26
 go_wp2_with fail
 go_ret
 exact ⟨rfl,rfl⟩
theorem pnewC (A:Option Addr) (n c:Nat) (d:Int) (zs:List Int) (w:World) (hb:Byt w w.heap.size A n c zs) (hn:n ≤ 900000) (hd:-9223372036854775808 ≤ d ∧ d ≤ 9223372036854775807) :
  Calls Tryz.prog 10 #[.slice A n c,.int .i64 d] w fun r w'=>r = .returned (.pointer (some ⟨w.heap.size + 2,0,none⟩)) ∧ PX w' (w.heap.size + 2) (w.heap.size + 1) w.heap.size A n c (dpZ d) zs 0 ∧ Below w.heap.size w w':=by
 have HLN:=lH (plnewC A n c w)
 have HB:=lH hb
 have HNN:=lH hn
 have fin:∀ (w2:World) (D:Nat),LX w2 (w.heap.size + 1) w.heap.size A n c 0 → w2.heap.size = w.heap.size + 2 → Below w.heap.size w w2 → PX (w2.alloc (.cells #[.pointer (some ⟨w.heap.size + 1,0,none⟩),.int .i64 D] 66)) (w.heap.size + 2) (w.heap.size + 1) w.heap.size A n c D zs 0 ∧ Below w.heap.size w (w2.alloc (.cells #[.pointer (some ⟨w.heap.size + 1,0,none⟩),.int .i64 D] 66)):=by
  intro w2 D hl hs hbl
  have h1:=(Below.refl w2.heap.size w2).alloc (Nat.le_refl _) (.cells #[.pointer (some ⟨w.heap.size + 1,0,none⟩),.int .i64 D] 66)
  have h2:=heap_alloc_new w2 (.cells #[.pointer (some ⟨w.heap.size + 1,0,none⟩),.int .i64 D] 66)
  rw [hs] at h2
  have h3:=hbl.trans (h1.mono hbl.size)
  exact ⟨⟨h2,hl.below h1 hl.lt hl.cu.lt,hb.below h3 (Nat.le_refl _),by omega,hn⟩,h3⟩
 have HFIN:=lH fin
 clear hb hn fin
 unfold dpZ
 by_cases h1:d < 0
 ·rw [if_pos h1]
  have m1:max d 0 = 0:=by omega
  have m2:min (0:Int) 28 = 0:=by omega
  clear hd
  go_enter Tryz.func10,Tryz.ntmps10
  go_wp2_with (first
   | (go_at_call 25;refine HLN.out.mono ?_;(rintro r w2 ⟨rfl,hl2,hs2,hb2⟩);have HL2:=lH hl2;have HS2:=lH hs2;have HB2:=lH hb2;clear hl2 hs2 hb2))
  go_ret
  exact ⟨by rw [HS2.out];rfl,HFIN.out _ 0 HL2.out HS2.out HB2.out⟩
 ·rw [if_neg h1]
  by_cases h2:28 < d
  ·rw [if_pos h2]
   have m1:max d 0 = d:=by omega
   have m2:min d 28 = 28:=by omega
   clear hd
   go_enter Tryz.func10,Tryz.ntmps10
   go_wp2_with (first
    | (go_at_call 25;refine HLN.out.mono ?_;(rintro r w2 ⟨rfl,hl2,hs2,hb2⟩);have HL2:=lH hl2;have HS2:=lH hs2;have HB2:=lH hb2;clear hl2 hs2 hb2))
   go_ret
   exact ⟨by rw [HS2.out];rfl,HFIN.out _ 28 HL2.out HS2.out HB2.out⟩
  ·rw [if_neg h2]
   obtain ⟨D,rfl⟩:∃ D:Nat,d = (D:Int):=⟨d.toNat,by omega⟩
   rw [Int.toNat_natCast]
   have m1:max (D:Int) 0 = (D:Int):=by omega
   have m2:min (D:Int) 28 = (D:Int):=by omega
   clear hd
   go_enter Tryz.func10,Tryz.ntmps10
   go_wp2_with (first
    | (go_at_call 25;refine HLN.out.mono ?_;(rintro r w2 ⟨rfl,hl2,hs2,hb2⟩);have HL2:=lH hl2;have HS2:=lH hs2;have HB2:=lH hb2;clear hl2 hs2 hb2))
   go_ret
   exact ⟨by rw [HS2.out];rfl,HFIN.out _ D HL2.out HS2.out HB2.out⟩
theorem pValueC {w:World} {m h g n c d p:Nat} {A:Option Addr} {zs:List Int} (f:Nat) (x:PX w m h g A n c d zs p) (hd:d ≤ 28) (hf:n - p < f) :
  Calls Tryz.prog 21 #[.pointer (some ⟨m,0,none⟩)] w (VaP m h g A n c d zs w (parF zs f .val d p)):=by
 have hx0:=x.alloc (.cells #[.int .i64 0,.int .i64 0,.slice none 0 0,.slice none 0 0,.slice none 0 0] 27)
 have ho0:=(Only.refl g w).alloc (.cells #[.int .i64 0,.int .i64 0,.slice none 0 0,.slice none 0 0,.slice none 0 0] 27)
 have hr0:=RsB.new w
 obtain ⟨W0,hW0⟩:∃ W0,w.alloc (.cells #[.int .i64 0,.int .i64 0,.slice none 0 0,.slice none 0 0,.slice none 0 0] 27) = W0:=⟨_,rfl⟩
 rw [hW0] at hx0 ho0 hr0
 have HVL:=lH ((parC m h g A n c d zs f).2.2 d W0 p (by omega) hx0 hf)
 have HEM:=lH (emptyC hx0)
 have HWB:Hid (w.heap.size ≤ w.heap.size):=lH (Nat.le_refl _)
 have HLT:Hid (m < w.heap.size ∧ h < w.heap.size ∧ g < w.heap.size):=lH ⟨x.lt,x.lx.lt,x.lx.cu.lt⟩
 have k1:=hx0.k1
 have HO0:=lH ho0
 have HR0:=lH hr0
 have HW0:=lH hW0
 obtain ⟨R,hR⟩:∃ R,parF zs f .val d p = R:=⟨_,rfl⟩
 rw [hR] at HVL ⊢
 obtain ⟨E,X,q5⟩:=R
 clear hx0 ho0 hr0 hW0 x hR hd hf
 go_enter Tryz.func21,Tryz.ntmps21
 go_upto_region 1 with fail
 rw [HW0.out]
 go_wp2_with (first
  | (go_at_call 26;refine HEM.out.mono ?_;(rintro r w1 ⟨rfl,rfl⟩))
  | (go_at_call 38;refine HVL.out.mono ?_;(rintro r w5 ⟨d0,d1,d2,d3,d4,hrr,hob,hx5,ho5⟩);(try dsimp only at hrr hob hx5);subst hrr;obtain ⟨k5,n5,A5,m5,e5,A6,m6,e6,A7,m7,e7,rfl,rfl,rfl,rfl,rfl⟩:=hob.shp;have HRF:=lH (HR0.out.only ho5 HLT.out.2.2);obtain ⟨r0,r1,r2,r3,r4,r5⟩:=zero_cells HRF.out;have HF:=lH (RsB.finN (w:=w) HR0.out HRF.out HWB.out hob hx5 (HO0.out.trans ho5) HLT.out);clear hob hx5 ho5))
 refine bodyPost_ret (results_cell_row_tmp rfl _ _ w.heap.size 27 _ (0,0) _ rfl HF.out.row Tryz.underlying27 rfl (by kernel_rfl) _ rfl) rfl ?_
 exact ⟨_,_,_,_,_,rfl,HF.out.ob,HF.out.px,HF.out.on⟩
end
section
open Go.RowKit
def allV (zs:List Int) (V:Rt):Rt :=
 if V.e ≠ 0 then noR V.e 0
 else if blkP zs V.q < zs.length then noR 3 0 else ⟨0,V.x,0⟩
def allR (zs:List Int) (d f:Nat):Rt:=allV zs (parF zs f .val d 0)
def AlP (w:World) (R:Rt) (r:Ending) (w':World):Prop :=
 ∃ d0 d1 d2 d3 d4,r = .returned (.tuple #[.agg #[d0,d1,d2,d3,d4],.int .i64 R.e]) ∧ ObR w' (nwT w w') R.x d0 d1 d2 d3 d4 ∧ Below w.heap.size w w'
structure FinA (w W:World) (b:Nat) (x:Ob) (d0 d1 d2 d3 d4:Value):Prop where
 row:(((((W.setCell ⟨b,0,none⟩ d0).setCell ⟨b,1,none⟩ d1).setCell ⟨b,2,none⟩ d2).setCell ⟨b,3,none⟩ d3).setCell ⟨b,4,none⟩ d4).heap[b]? = some (.cells #[d0,d1,d2,d3,d4] 27 (0,0))
 ob:ObR (((((W.setCell ⟨b,0,none⟩ d0).setCell ⟨b,1,none⟩ d1).setCell ⟨b,2,none⟩ d2).setCell ⟨b,3,none⟩ d3).setCell ⟨b,4,none⟩ d4) (nwT w (((((W.setCell ⟨b,0,none⟩ d0).setCell ⟨b,1,none⟩ d1).setCell ⟨b,2,none⟩ d2).setCell ⟨b,3,none⟩ d3).setCell ⟨b,4,none⟩ d4)) x d0 d1 d2 d3 d4
 bl:Below w.heap.size w (((((W.setCell ⟨b,0,none⟩ d0).setCell ⟨b,1,none⟩ d1).setCell ⟨b,2,none⟩ d2).setCell ⟨b,3,none⟩ d3).setCell ⟨b,4,none⟩ d4)
theorem RsB.finA {w W:World} {b lo:Nat} {x:Ob} {d0 d1 d2 d3 d4:Value} (r:RsB b W) (hwb:w.heap.size ≤ b) (hlo:b < lo) (hx:ObR W (fun y=>lo ≤ y ∧ y < W.heap.size) x d0 d1 d2 d3 d4) (hb:Below w.heap.size w W):FinA w W b x d0 d1 d2 d3 d4 :=
 ⟨set5_row r,ObR.keep (fun y hy=>heap_set5 (by omega)) (fun y hy=>⟨by omega,by rw [size_set5];exact hy.2⟩) x hx,below_set5 hb hwb⟩
set_option maxHeartbeats 2000000 in
theorem pAllC (A:Option Addr) (n c:Nat) (d:Int) (zs:List Int) (w:World) (f:Nat) (hy:Byt w w.heap.size A n c zs) (hn:n ≤ 900000) (hd:-9223372036854775808 ≤ d ∧ d ≤ 9223372036854775807) (hf:n < f) :
  Calls Tryz.prog 9 #[.slice A n c,.int .i64 d] w (AlP w (allR zs (dpZ d) f)):=by
 have hb0:=(Below.refl w.heap.size w).alloc (Nat.le_refl _) (.cells #[.int .i64 0,.int .i64 0,.slice none 0 0,.slice none 0 0,.slice none 0 0] 27)
 have hr0:=RsB.new w
 obtain ⟨W0,hW0⟩:∃ W0,w.alloc (.cells #[.int .i64 0,.int .i64 0,.slice none 0 0,.slice none 0 0,.slice none 0 0] 27) = W0:=⟨_,rfl⟩
 rw [hW0] at hb0 hr0
 have hs0:=hb0.size
 have HNW:=lH (pnewC A n c d zs W0 ((hy.below hb0 (Nat.le_refl _)).more hb0.size) hn hd)
 have HZL:=lH hy.len
 have HNN:=lH hn
 have HVL:=lH (fun W m h g (x:PX W m h g A n c (dpZ d) zs 0)=>pValueC f x (dpZ_le d) (by omega))
 have HR0:=lH hr0
 have HB0:=lH hb0
 have HW0:=lH hW0
 have HNO:=lH (fun W=>noneC W)
 unfold allR
 have hq:=parF_q zs f .val (dpZ d) 0
 obtain ⟨V,hV⟩:∃ V,parF zs f .val (dpZ d) 0 = V:=⟨_,rfl⟩
 rw [hV] at HVL ⊢
 obtain ⟨E,X,q5⟩:=V
 obtain ⟨K,hK⟩:∃ K,blkP zs q5 = K:=⟨_,rfl⟩
 have HKB:=lH hK
 obtain ⟨R,hR⟩:∃ R,allV zs ⟨E,X,q5⟩ = R:=⟨_,rfl⟩
 have HAR:=lH hR
 rw [hR]
 clear hR
 clear hy hb0 hr0 hW0 hs0 hV hq hK hn hd
 go_enter Tryz.func9,Tryz.ntmps9
 go_upto_region 1 with fail
 rw [HW0.out]
 go_upto_region 2 with (first
  | (go_at_call 10;refine HNW.out.mono ?_;(rintro r w1 ⟨rfl,hx1,hb1⟩);have HX1:=lH hx1;have HB1:=lH hb1;clear hx1 hb1))
 have hml:W0.heap.size + 2 < w1.heap.size:=HX1.out.lt
 have HML:=lH hml
 clear hml
 obtain ⟨m,hm⟩:∃ m,W0.heap.size + 2 = m:=⟨_,rfl⟩
 obtain ⟨h,hh⟩:∃ h,W0.heap.size + 1 = h:=⟨_,rfl⟩
 obtain ⟨g,hg⟩:∃ g,W0.heap.size = g:=⟨_,rfl⟩
 rw [hm,hh,hg] at HX1
 rw [hm]
 have HG:=lH hg
 clear hm hh hg
 go_upto_region 3 with (first
  | (go_at_call 21;refine (HVL.out _ _ _ _ HX1.out).mono ?_;(rintro r w5 ⟨d0,d1,d2,d3,d4,hrr,hob,hx5,ho5⟩);(try dsimp only at hrr hob hx5);subst hrr;obtain ⟨k5,n5,A5,m5,e5,A6,m6,e6,A7,m7,e7,rfl,rfl,rfl,rfl,rfl⟩:=hob.shp;have HOX:=lH hob;have HX5:=lH hx5;have HO5:=lH ho5;clear hob hx5 ho5))
 have hb8:=(Below.refl w5.heap.size w5).alloc (Nat.le_refl _) (.cells #[.int .i64 k5,.int .i64 n5,.slice A5 m5 e5,.slice A6 m6 e6,.slice A7 m7 e7] 27)
 have hn8:=heap_alloc_new w5 (.cells #[.int .i64 k5,.int .i64 n5,.slice A5 m5 e5,.slice A6 m6 e6,.slice A7 m7 e7] 27)
 obtain ⟨w8,hw8⟩:∃ w8,w5.alloc (.cells #[.int .i64 k5,.int .i64 n5,.slice A5 m5 e5,.slice A6 m6 e6,.slice A7 m7 e7] 27) = w8:=⟨_,rfl⟩
 rw [hw8] at hb8 hn8
 rw [hw8]
 have HN8:=lH hn8
 have HX8:=lH (HX5.out.low hb8)
 have hgw:W0.heap.size ≤ g:=Nat.le_of_eq HG.out
 have hgl:W0.heap.size ≤ w1.heap.size:=HB1.out.size
 have hbl8:=(HB1.out.trans (HO5.out.belowB hgw (Nat.le_of_lt HX1.out.lx.cu.lt))).trans (hb8.mono (Nat.le_trans hgl HO5.out.size))
 have HBL8:=lH hbl8
 have HR8:=lH (HR0.out.low hbl8)
 have HOX8:=lH (ObR.keep (S':=fun y=>W0.heap.size ≤ y ∧ y < w8.heap.size ∧ y < w5.heap.size ∧ y ≠ g) (fun b hb=>hb8.block b hb.2) (fun b hb=>⟨Nat.le_trans hgl hb.1,Nat.lt_of_lt_of_le hb.2 hb8.size,hb.2,Nat.ne_of_gt (Nat.lt_of_lt_of_le HX1.out.lx.cu.lt hb.1)⟩) _ HOX.out)
 have HSZ:=lH hb8.size
 clear hb8 hn8 hw8 hbl8 hgw hgl
 by_cases hE:E = 0
 ·subst hE
  have HBK:=lH (pblankC h g n c q5 g A zs w8 HX8.out.lx HX8.out.bt (Nat.le_refl _) (by have:=HNN.out;omega))
  have k0:=HX8.out.k0
  go_upto_region 6 with (first
   | (go_at_call 23;refine HBK.out.mono ?_;(rintro r w9 ⟨rfl,hl9,ho9⟩);have HL9:=lH hl9;have HO9:=lH ho9;clear hl9 ho9))
  have hbl9:=HBL8.out.trans (HO9.out.belowB (B:=W0.heap.size) (Nat.le_of_eq HG.out) (Nat.le_of_lt HX8.out.lx.cu.lt))
  have HR9:=lH (HR0.out.low hbl9)
  have HBW:=lH (HB0.out.trans (hbl9.mono HB0.out.size))
  have k9:w9.cell? ⟨m,0,none⟩ = some (.pointer (some ⟨h,0,none⟩)):=by
   rw [HO9.out.cell (p:=⟨m,0,none⟩) HX8.out.lt HX8.out.ne];exact HX8.out.k0
  have j9:=HL9.out.k0
  have hkn:K ≤ n:=by have:=HL9.out.pl;rw [HKB.out] at this;exact this
  have hlf:=left_any g n c _ A w9 HL9.out.cu HL9.out.pl (by have:=HNN.out;omega)
  rw [HKB.out] at hlf
  have HLF:=lH hlf
  clear hlf k0
  by_cases hK2:K < n
  ·obtain rfl:R = noR 3 0:=by rw [← HAR.out];unfold allV;rw [if_neg (fun h=>h rfl),if_pos (by rw [HKB.out,HZL.out];exact hK2)]
   have gK:(n:Int) - K > 0:=by omega
   go_wp2_with (first
    | (go_at_call 24;refine HLF.out.mono ?_;(rintro r wA ⟨rfl,rfl⟩))
    | (go_at_call 22;refine (HNO.out _).mono ?_;(rintro r wB ⟨rfl,hbB⟩);have HRF:=lH (HR9.out.low hbB);obtain ⟨r0,r1,r2,r3,r4,r5⟩:=zero_cells HRF.out;have HBB:=lH (HBW.out.trans (hbB.mono HBW.out.size));clear hbB))
   have HF:=lH (HRF.out.finA (w:=w) (Nat.le_refl _) (Nat.lt_succ_self _) (ob_nul _ _) HBB.out)
   refine bodyPost_ret (results_cell_row_tmp rfl _ _ w.heap.size 27 _ (0,0) _ rfl HF.out.row Tryz.underlying27 rfl (by kernel_rfl) _ rfl) rfl ?_
   exact ⟨_,_,_,_,_,rfl,HF.out.ob,HF.out.bl⟩
  ·obtain rfl:R = ⟨0,X,0⟩:=by rw [← HAR.out];unfold allV;rw [if_neg (fun h=>h rfl),if_neg (by rw [HKB.out,HZL.out];exact hK2)]
   have gK:¬ (n:Int) - K > 0:=by omega
   have hn9:=(HO9.out.block w5.heap.size (row_lt _ _ _ HN8.out) (by have:=HX1.out.lx.cu.lt;have:=HO5.out.size;omega)).trans HN8.out
   have n0:=cell_of_row w9 w5.heap.size 0 _ _ (0,0) hn9
   have n1:=cell_of_row w9 w5.heap.size 1 _ _ (0,0) hn9
   have n2:=cell_of_row w9 w5.heap.size 2 _ _ (0,0) hn9
   have n3:=cell_of_row w9 w5.heap.size 3 _ _ (0,0) hn9
   have n4:=cell_of_row w9 w5.heap.size 4 _ _ (0,0) hn9
   obtain ⟨r0,r1,r2,r3,r4,r5⟩:=zero_cells HR9.out
   have HF:=lH (HR9.out.finA (w:=w) (lo:=W0.heap.size) (Nat.le_refl _) HR0.out.lt (ObR.keep (fun b hb=>HO9.out.block b hb.2.1 hb.2.2.2) (fun b hb=>⟨hb.1,Nat.lt_of_lt_of_le hb.2.1 HO9.out.size⟩) _ HOX8.out) HBW.out)
   clear hn9
   go_wp2_with (first
    | (go_at_call 24;refine HLF.out.mono ?_;(rintro r wA ⟨rfl,rfl⟩)))
   refine bodyPost_ret (results_cell_row_tmp rfl _ _ w.heap.size 27 _ (0,0) _ rfl HF.out.row Tryz.underlying27 rfl (by kernel_rfl) _ rfl) rfl ?_
   exact ⟨_,_,_,_,_,rfl,HF.out.ob,HF.out.bl⟩
 ·obtain rfl:R = noR E 0:=by rw [← HAR.out];unfold allV;rw [if_pos hE]
  have hEb:(E == 0) = false:=beq_eq_false_iff_ne.2 hE
  have HBW:=lH (HB0.out.trans (HBL8.out.mono HB0.out.size))
  clear hE
  go_wp2_with (first
   | (go_at_call 22;refine (HNO.out _).mono ?_;(rintro r wB ⟨rfl,hbB⟩);have HRF:=lH (HR8.out.low hbB);obtain ⟨r0,r1,r2,r3,r4,r5⟩:=zero_cells HRF.out;have HBB:=lH (HBW.out.trans (hbB.mono HBW.out.size));clear hbB))
  have HF:=lH (HRF.out.finA (w:=w) (Nat.le_refl _) (Nat.lt_succ_self _) (ob_nul _ _) HBB.out)
  refine bodyPost_ret (results_cell_row_tmp rfl _ _ w.heap.size 27 _ (0,0) _ rfl HF.out.row Tryz.underlying27 rfl (by kernel_rfl) _ rfl) rfl ?_
  exact ⟨_,_,_,_,_,rfl,HF.out.ob,HF.out.bl⟩
end
section
open Go.RowKit
structure RI where
 n:Int
 r:Bool
 g:List Int
def gapOk (g:List Int):Prop:=g = [32] ∨ g = [10] ∨ g = [37,120,13] ∨ g = [32,32]
structure RI.ok (t:RI):Prop where
 lo:0 ≤ t.n
 hi:t.n ≤ 8
 r:t.r = true → 0 < t.n
 g:gapOk t.g
def RI.mid (t:RI):List Int:=if t.r = true then t.g ++ 48 :: (t.g ++ [82]) else []
def RI.z (t:RI):List Int:=(48 + t.n) :: (t.mid ++ t.g)
def RI.o (t:RI):Ob:=.mk (if t.r = true then 9 else 2) t.n [] .nil .nil
def rzL:List RI → List Int
 | []=>[]
 | t :: ts=>t.z ++ rzL ts
def foL (l:Obs):List RI → Obs
 | []=>l
 | t :: ts=>foL (l.snoc t.o) ts
theorem rzL_snoc:∀ (ts:List RI) (t:RI),rzL (ts ++ [t]) = rzL ts ++ t.z
 | [],t=>by simp [rzL]
 | x :: ts,t=>by rw [List.cons_append,rzL,rzL,rzL_snoc ts t,List.append_assoc]
theorem foL_snoc:∀ (ts:List RI) (l:Obs) (t:RI),foL l (ts ++ [t]) = (foL l ts).snoc t.o
 | [],l,t=>rfl
 | x :: ts,l,t=>by rw [List.cons_append,foL,foL,foL_snoc ts _ t]
theorem rzL_len:∀ ts:List RI,ts.length ≤ (rzL ts).length
 | []=>Nat.le_refl _
 | t :: ts=>by
  have:=rzL_len ts
  rw [rzL,List.length_append,List.length_cons,RI.z,List.length_cons]
  omega
theorem gap_del {g:List Int} (h:gapOk g) (rest:List Int):∃ c cs,g ++ rest = c :: cs ∧ regB c = false:=by
 rcases h with rfl | rfl | rfl | rfl <;> exact ⟨_,_,rfl,by decide⟩
theorem gap_row {g:List Int} (h:gapOk g) (rest:List Int):rowZ regB (g ++ rest) = 0:=by
 obtain ⟨c,cs,e,hc⟩:=gap_del h rest
 rw [e]
 exact row_stopR regB (.inr ⟨c,cs,rfl,hc⟩)
theorem gap_at {zs g rest:List Int} {p:Nat} (hg:gapOk g) (h:zs.drop p = g ++ rest):blkP zs p = blkP zs (p + g.length) ∧ tokT zs p = tokT zs (p + g.length) ∧ zs.drop (p + g.length) = rest:=by
 have hb:blkP zs p = blkP zs (p + g.length):=by
  have hd:=drop_n h
  rcases hg with rfl | rfl | rfl | rfl
  ·exact (at_wh (rest:=rest) h (by decide)).1
  ·exact (at_wh (rest:=rest) h (by decide)).1
  ·unfold blkP
   rw [hd,h,show blkZ false ([37,120,13] ++ rest) = blkZ false rest + 3 by
    show blkZ false (37 :: 120 :: 13 :: rest) = _
    rw [blkZ,if_neg (by decide),if_pos rfl,blkZ,if_neg (by decide),blkZ,if_pos (by decide)]]
   simp only [List.length_cons,List.length_nil]
   omega
  ·have t1:=at_wh (rest:=32 :: rest) h (by decide)
   exact t1.1.trans (at_wh t1.2.2 (by decide)).1
 exact ⟨hb,tokT_blk zs _ _ hb,drop_n h⟩
theorem dig_z (n:Int) (h0:0 ≤ n) (h8:n ≤ 8):zsB (textB n true) = [48 + n]:=by
 have:n = 0 ∨ n = 1 ∨ n = 2 ∨ n = 3 ∨ n = 4 ∨ n = 5 ∨ n = 6 ∨ n = 7 ∨ n = 8:=by omega
 rcases this with rfl | rfl | rfl | rfl | rfl | rfl | rfl | rfl | rfl <;> decide +kernel
theorem dig_at {zs rest:List Int} {p:Nat} {n:Int} (h0:0 ≤ n) (h8:n ≤ 8) (he:rowZ regB rest = 0) (h:zs.drop p = (48 + n) :: rest) :
  blkP zs p = p ∧ tokT zs p = ⟨0,1,n,[],p + 1⟩ ∧ zs.drop (p + 1) = rest:=by
 have hz:=dig_z n h0 h8
 have hl:(textB n true).length = 1:=by have:=congrArg List.length hz;simpa [zsB] using this
 have:=at_num (zs:=zs) (p:=p) (n:=n) (whole:=true) (rest:=rest) (inB_true (by omega) (by omega)) (fun _=>by omega) he (by rw [hz];exact h)
 rw [hl,if_pos rfl] at this
 exact this
theorem kw_yes {zs g rest:List Int} {p:Nat} (hg:gapOk g) (h:zs.drop p = g ++ 82 :: rest) (hr:∃ c cs,rest = c :: cs ∧ regB c = false):kwB zs p strR = true ∧ kwP zs p strR = p + g.length + 1:=by
 obtain ⟨h1,_,h3⟩:=gap_at hg h
 have hp:=peek_on h3
 have hb:blkP zs p = p + g.length:=h1.trans (tok_no hp (by decide) (by decide))
 have hs:strR.size = 1:=rfl
 have hl:p + g.length + 1 ≤ zs.length:=by
  have:=congrArg List.length h3
  rw [List.length_drop,List.length_cons] at this
  omega
 obtain ⟨c,cs,rfl,hc⟩:=hr
 have hq:=peek_on (drop_one h3)
 have hst:stB zs (p + g.length) strR = true:=by
  rw [stB_yes zs _ strR (by rw [hs];exact hl),hs,h3]
  exact beq_iff_eq.2 (by rfl)
 have hk:kwB zs p strR = true:=by
  unfold kwB
  rw [hb,hst,hs,show (((p + g.length:Nat):Int) + ((1:Nat):Int)) = ((p + g.length + 1:Nat):Int) by omega,hq,hc]
  rfl
 refine ⟨hk,?_⟩
 unfold kwP
 rw [if_pos hk,hb,hs]
theorem kw_none {zs g rest:List Int} {p:Nat} {c:Int} (hg:gapOk g) (h:zs.drop p = g ++ c :: rest) (hc:(48 ≤ c ∧ c ≤ 56) ∨ c = 93):kwB zs p strR = false:=by
 obtain ⟨h1,_,h3⟩:=gap_at hg h
 have hp:=peek_on h3
 have hc2:c = 48 ∨ c = 49 ∨ c = 50 ∨ c = 51 ∨ c = 52 ∨ c = 53 ∨ c = 54 ∨ c = 55 ∨ c = 56 ∨ c = 93:=by omega
 have hw:whB c = false ∧ c ≠ 37:=by rcases hc2 with rfl | rfl | rfl | rfl | rfl | rfl | rfl | rfl | rfl | rfl <;> exact ⟨by decide,by decide⟩
 have hb:blkP zs p = p + g.length:=h1.trans (tok_no hp hw.1 hw.2)
 have hs:strR.size = 1:=rfl
 have hl:p + g.length + 1 ≤ zs.length:=by
  have:=congrArg List.length h3
  rw [List.length_drop,List.length_cons] at this
  omega
 unfold kwB
 rw [hb,stB_yes zs _ strR (by rw [hs];exact hl),hs,h3]
 have:((strOfNums (List.take 1 (c :: rest))).toList == strR.toList) = false:=by
  show ((strOfNums [c]).toList == strR.toList) = false
  rcases hc2 with rfl | rfl | rfl | rfl | rfl | rfl | rfl | rfl | rfl | rfl <;> decide +kernel
 rw [this]
 rfl
theorem rz_head (ts:List RI) (h:∀ t ∈ ts,t.ok):∃ c rest,rzL ts ++ [93] = c :: rest ∧ ((48 ≤ c ∧ c ≤ 56) ∨ c = 93):=by
 match ts with
 | []=>exact ⟨93,[],rfl,.inr rfl⟩
 | t :: ts =>
  have ho:=h t (by simp)
  have h1:=ho.lo
  have h2:=ho.hi
  exact ⟨48 + t.n,_,rfl,.inl ⟨by omega,by omega⟩⟩
theorem ref_no {zs g:List Int} {q:Nat} (ts:List RI) (ho:∀ t ∈ ts,t.ok) (hg:gapOk g) (h:zs.drop q = g ++ (rzL ts ++ [93])):refB zs q = false:=by
 obtain ⟨_,h2,h3⟩:=gap_at hg h
 unfold refB
 match ts with
 | [] =>
  have t:=at_close (rest:=[]) h3
  rw [h2,t.2.1]
  rfl
 | t :: ts =>
  have hot:=ho t (by simp)
  have hz:zs.drop (q + g.length) = (48 + t.n) :: (t.mid ++ (t.g ++ (rzL ts ++ [93]))):=by
   rw [h3,rzL,RI.z];simp
  have hrow:rowZ regB (t.mid ++ (t.g ++ (rzL ts ++ [93]))) = 0:=by
   unfold RI.mid
   split
   ·rw [List.append_assoc];exact gap_row hot.g _
   ·exact gap_row hot.g _
  have d:=dig_at hot.lo hot.hi hrow hz
  rw [h2,d.2.1]
  dsimp only
  by_cases hn:t.n = 0
  ·have hr:t.r = false:=by
    rcases hb:t.r with _ | _
    ·rfl
    ·have:=hot.r hb;omega
   have hd:=d.2.2
   rw [RI.mid,hr,if_neg (by decide),List.nil_append] at hd
   obtain ⟨c,rest,e,hc⟩:=rz_head ts (fun t ht=>ho t (by simp [ht]))
   rw [e] at hd
   rw [kw_none hot.g hd hc]
   simp
  ·rw [decide_eq_false hn]
   simp
theorem item_whole {zs:List Int} {Q:Nat} (t:RI) (ts:List RI) (hot:t.ok) (ho:∀ t ∈ ts,t.ok) (h:zs.drop Q = rzL (t :: ts) ++ [93]) :
  tokT zs Q = ⟨0,1,t.n,[],Q + 1⟩ ∧ ∃ q' Q',wholeR zs t.n (Q + 1) = ⟨0,t.o,q'⟩ ∧ blkP zs q' = blkP zs Q' ∧ zs.drop Q' = rzL ts ++ [93]:=by
 have hz:zs.drop Q = (48 + t.n) :: (t.mid ++ (t.g ++ (rzL ts ++ [93]))):=by
  rw [h,rzL,RI.z];simp
 have hrow:rowZ regB (t.mid ++ (t.g ++ (rzL ts ++ [93]))) = 0:=by
  unfold RI.mid
  split
  ·rw [List.append_assoc];exact gap_row hot.g _
  ·exact gap_row hot.g _
 have d:=dig_at hot.lo hot.hi hrow hz
 refine ⟨d.2.1,?_⟩
 have hd:=d.2.2
 unfold RI.mid at hd
 unfold RI.o wholeR
 rcases hr:t.r with _ | _
 ·rw [hr,if_neg (by decide),List.nil_append] at hd
  rw [if_neg (by rw [ref_no ts ho hot.g hd];simp),if_neg (by decide)]
  obtain ⟨h1,_,h3⟩:=gap_at hot.g hd
  exact ⟨_,_,rfl,h1,h3⟩
 ·have hpos:=hot.r hr
  rw [hr,if_pos rfl,List.append_assoc] at hd
  have hd1:zs.drop (Q + 1) = t.g ++ ((48 + 0) :: (t.g ++ (82 :: (t.g ++ (rzL ts ++ [93]))))):=by rw [hd];simp
  obtain ⟨_,g2,g3⟩:=gap_at hot.g hd1
  have d0:=dig_at (n:=0) (by omega) (by omega) (gap_row hot.g _) g3
  obtain ⟨c,cs,e,hc⟩:=gap_del hot.g (rzL ts ++ [93])
  have hk:=kw_yes hot.g d0.2.2 ⟨c,cs,e,hc⟩
  have hrf:refB zs (Q + 1) = true:=by
   unfold refB
   rw [g2,d0.2.1]
   dsimp only
   rw [hk.1]
   rfl
  have hh:=hot.hi
  rw [if_pos ⟨⟨by omega,by omega⟩,hrf⟩,if_pos rfl,g2,d0.2.1]
  dsimp only
  rw [hk.2]
  have hd2:zs.drop (Q + 1 + t.g.length + 1 + t.g.length + 1) = t.g ++ (rzL ts ++ [93]):=drop_one (drop_n d0.2.2)
  obtain ⟨h1,_,h3⟩:=gap_at hot.g hd2
  exact ⟨_,_,rfl,h1,h3⟩
theorem refs_its (zs:List Int) (d:Nat):∀ (ts:List RI) (f p Q:Nat) (l:Obs),(∀ t ∈ ts,t.ok) → ts.length < f → blkP zs p = blkP zs Q → zs.drop Q = rzL ts ++ [93] →
  ∃ q,zs.drop q = [] ∧ parF zs f (.its l) d p = ⟨0,.mk 6 0 [] (foL l ts) .nil,q⟩
 | ts,0,p,Q,l,_,hf,_,_=>absurd hf (Nat.not_lt_zero _)
 | [],f + 1,p,Q,l,ho,hf,hb,h=>by
  have t:=at_close (rest:=[]) h
  refine ⟨Q + 1,t.2.2,?_⟩
  rw [parF,tokT_blk zs p Q hb,t.2.1,if_neg (fun h=>h rfl),if_pos rfl]
  rfl
 | t :: ts,f + 1,p,Q,l,ho,hf,hb,h=>by
  have ho2:∀ t ∈ ts,t.ok:=fun t ht=>ho t (by simp [ht])
  obtain ⟨ht,q',Q',hw,hb2,hd2⟩:=item_whole t ts (ho t (by simp)) ho2 h
  obtain ⟨q,hq,ih⟩:=refs_its zs d ts f q' Q' (l.snoc t.o) ho2 (by rw [List.length_cons] at hf;omega) hb2 hd2
  refine ⟨q,hq,?_⟩
  have hB:∀ (X Y:Nat → Nat → Rt) (a:Nat),begR zs X Y ⟨0,1,t.n,[],Q + 1⟩ a d = ⟨0,t.o,q'⟩:=fun X Y a=>by
   unfold begR
   dsimp only
   rw [if_pos rfl]
   exact hw
  rw [parF,tokT_blk zs p Q hb,ht,hB,if_neg (fun h=>h rfl),if_neg (by simp),if_neg (fun h=>h rfl)]
  exact ih
theorem refs_all (zs:List Int) (ts:List RI) (ho:∀ t ∈ ts,t.ok) (hz:zs = 91 :: (rzL ts ++ [93])) (f:Nat) (hf:zs.length < f):allR zs 3 f = ⟨0,.mk 6 0 [] (foL .nil ts) .nil,0⟩:=by
 have h0:zs.drop 0 = 91 :: (rzL ts ++ [93]):=by rw [List.drop_zero,hz]
 have hl:zs.length = (rzL ts).length + 2:=by rw [hz];simp
 have hr:=rzL_len ts
 obtain ⟨f,rfl⟩:∃ f',f = f' + 1:=⟨f - 1,by omega⟩
 have t0:=at_open h0
 obtain ⟨q,hq,hi⟩:=refs_its zs 2 ts f 1 1 .nil ho (by omega) rfl t0.2.2
 unfold allR
 rw [parF,t0.2.1,if_neg (fun h=>h rfl)]
 unfold begR
 dsimp only
 rw [if_neg (by decide),if_neg (by decide),if_neg (by decide),if_neg (by decide),if_neg (by decide),if_pos rfl,if_neg (by decide)]
 rw [show parF zs f (.its .nil) (3 - 1) 1 = _ from hi]
 unfold allV
 have hql:zs.length ≤ q:=List.drop_eq_nil_iff.1 hq
 have:=blkP_ge zs q
 rw [if_neg (fun h=>h rfl),if_neg (show ¬ blkP zs q < zs.length by omega)]
end
section
open Go.ChangeShapes Go.WideShapes Go.ChangeAt Go.RowKit Go.Deep
structure Sht (w:World) (B:Nat) (A:Option Addr) (n c:Nat) (us:List Int):Prop where
 len:us.length = n
 cap:n ≤ c
 rng:∀ z ∈ us,0 ≤ z ∧ z < 65536
 cell:0 < n → ∃ b o,A = some ⟨b,o,none⟩ ∧ b < B ∧ ∀ i,i < n → w.cell? ⟨b,o + i,none⟩ = some (.int .u16 (us.getD i 0))
theorem short_wf {z:Int} (h:(Lit.int .u16 z).wf = true):0 ≤ z ∧ z < 65536:=by
 simp [Lit.wf] at h
 have e1:IntKind.u16.min = 0:=by decide
 have e2:IntKind.u16.max = 65535:=by decide
 omega
theorem open_shorts {H:Type} {enc:TypeId × Value → H} {W:World} {base:Nat} {sp:Nat → Bool} {held:Bool} {A:Option Addr} {len cap:Nat} {d:DataW H} {p:List MemPlace}
  (h:DataW.Trod enc Tryz.prog W base sp held 56 (.slice A len cap) d p) (hsp:∀ b,sp b = true):∃ us,Sht W W.heap.size A len cap us ∧ cap ≤ maxLen:=by
 obtain ⟨fuel,hf⟩:=h
 rcases open_ints Tryz.underlying56 Tryz.underlying58 (by kernel_rfl) hf with ⟨hcs,_⟩ | ⟨x,l,c,zs,hcs,_,hl,hm,hz,_,hcell,hwz⟩
 ·simp [Value.cells] at hcs
  obtain ⟨rfl,rfl,rfl⟩:=hcs
  exact ⟨[],⟨rfl,Nat.le_refl _,(fun _ h=>by cases h),fun h=>absurd h (by omega)⟩,Nat.zero_le _⟩
 ·simp [Value.cells] at hcs
  obtain ⟨rfl,rfl,rfl⟩:=hcs
  have hz':zs.length = cap:=by simpa [hsp] using hz
  refine ⟨zs.take len,⟨by simp;omega,hl,fun z hz=>short_wf (hwz z (List.mem_of_mem_take hz)),fun h0=>?_⟩,hm⟩
  obtain ⟨b,o,rfl,hc⟩:=ints_at hcell (by omega)
  refine ⟨b,o,rfl,cell_lt (hc 0 (by omega)),fun i hi=>?_⟩
  rw [hc i (by omega)]
  simp [List.getD,hi]
theorem getD_mem (us:List Int) (i:Nat) (h:i < us.length):us.getD i 0 ∈ us:=by
 simp [List.getD,h]
def gapZ (k:Nat):List Int:=if k = 0 then [32] else if k = 1 then [10] else if k = 2 then [37,120,13] else [32,32]
theorem gapZ_ok (k:Nat):gapOk (gapZ k):=by
 unfold gapZ gapOk
 split
 ·exact .inl rfl
 ·split
  ·exact .inr (.inl rfl)
  ·split
   ·exact .inr (.inr (.inl rfl))
   ·exact .inr (.inr (.inr rfl))
def gix (bs:List Int) (i:Nat):Nat:=if i < bs.length then (bs.getD i 0).toNat % 4 else 0
def itm (us bs:List Int) (i:Nat):RI:=⟨(us.getD i 0) % 9,decide (32768 ≤ us.getD i 0 ∧ 0 < us.getD i 0 % 9),gapZ (gix bs i)⟩
def itms (us bs:List Int) (i:Nat):List RI:=(List.range i).map (itm us bs)
theorem itms_succ (us bs:List Int) (i:Nat):itms us bs (i + 1) = itms us bs i ++ [itm us bs i]:=by
 unfold itms
 rw [List.range_succ,List.map_append]
 rfl
theorem itm_ok (us bs:List Int) (i:Nat):(itm us bs i).ok:=by
 refine ⟨?_,?_,fun h=>?_,gapZ_ok _⟩
 ·show 0 ≤ (us.getD i 0) % 9;omega
 ·show (us.getD i 0) % 9 ≤ 8;omega
 ·have:=of_decide_eq_true h
  exact this.2
theorem itms_ok (us bs:List Int) (i:Nat):∀ t ∈ itms us bs i,t.ok:=by
 intro t ht
 unfold itms at ht
 obtain ⟨j,_,rfl⟩:=List.mem_map.1 ht
 exact itm_ok us bs j
theorem foL_len:∀ (ts:List RI) (l:Obs),(foL l ts).len = l.len + ts.length
 | [],l=>rfl
 | t :: ts,l=>by rw [foL,foL_len ts,Obs.snoc_len,List.length_cons];omega
theorem itms_len (us bs:List Int) (i:Nat):(itms us bs i).length = i:=by simp [itms]
theorem RI.z_len (t:RI) (h:t.ok):t.z.length ≤ 12:=by
 have hg:t.g.length ≤ 3:=by rcases h.g with e | e | e | e <;> rw [e] <;> simp
 unfold RI.z RI.mid
 split <;> simp <;> omega
theorem rzL_le:∀ ts:List RI,(∀ t ∈ ts,t.ok) → (rzL ts).length ≤ 12 * ts.length
 | [],_=>Nat.le_refl _
 | t :: ts,h=>by
  have:=rzL_le ts (fun t ht=>h t (by simp [ht]))
  have:=t.z_len (h t (by simp))
  rw [rzL,List.length_append,List.length_cons]
  omega
theorem and15 (U:Nat) (hU:U < 65536):bits .and .u16 (U:Int) 32768 = if U < 32768 then 0 else 32768:=by
 have f:∀ y:Nat,y < 65536 → (BitVec.ofInt 16 (y:Int)).toNat = y:=fun y hy=>by
  rw [BitVec.ofInt_natCast,BitVec.toNat_ofNat];exact Nat.mod_eq_of_lt (by omega)
 show IntKind.u16.wrap ((BitVec.ofInt 16 (U:Int) &&& BitVec.ofInt 16 ((32768:Nat):Int)).toNat:Int) = _
 rw [BitVec.toNat_and,f _ hU,f _ (by omega),show (32768:Nat) = 2 ^ 15 from rfl]
 by_cases h:U < 2 ^ 15
 ·have e:U &&& 2 ^ 15 = 0:=Nat.eq_of_testBit_eq fun i=>by
   rw [Nat.testBit_and,Nat.testBit_two_pow,Nat.zero_testBit]
   by_cases hi:15 = i
   ·subst hi
    rw [Nat.testBit_lt_two_pow h]
    rfl
   ·rw [decide_eq_false hi,Bool.and_false]
  rw [e,if_pos h]
  decide
 ·have e:U &&& 2 ^ 15 = 2 ^ 15:=Nat.eq_of_testBit_eq fun i=>by
   rw [Nat.testBit_and,Nat.testBit_two_pow]
   by_cases hi:15 = i
   ·subst hi
    rw [Nat.testBit_eq_decide_div_mod_eq,decide_eq_true (by omega)]
    rfl
   ·rw [decide_eq_false hi,Bool.and_false]
  rw [e,if_neg h]
  decide
theorem and3r:∀ a:Fin 256,bits .and .u8 ((a.val:Nat):Int) 3 = ((a.val % 4:Nat):Int):=by decide +kernel
structure WB (w wr:World) (g:Nat) (v:Value):Prop where
 low:Below w.heap.size w wr
 row:wr.heap[g]? = some (.cells #[.int .i64 6,.int .i64 0,.slice none 0 0,v,.slice none 0 0] 27 (0,0))
 ge:w.heap.size ≤ g
 lt:g + 1 ≤ wr.heap.size
theorem WB.step {w wr wr':World} {g:Nat} {v:Value} (h:WB w wr g v) (hb:Below (g + 1) wr wr'):WB w wr' g v :=
 ⟨h.low.trans (hb.mono (by have:=h.ge;omega)),(hb.block _ (by omega)).trans h.row,h.ge,Nat.le_trans h.lt hb.size⟩
theorem WB.low_ {w wr wr':World} {g:Nat} {v:Value} (h:WB w wr g v) (hb:Below wr.heap.size wr wr'):WB w wr' g v:=h.step (hb.mono h.lt)
theorem WB.put3 {w wr:World} {g:Nat} {v:Value} (h:WB w wr g v) (v':Value):WB w (wr.setCell ⟨g,3,none⟩ v') g v' :=
 ⟨h.low.setCell (p:=⟨g,3,none⟩) h.ge v',heap_set wr g 3 v' [.int .i64 6,.int .i64 0,.slice none 0 0,v,.slice none 0 0] _ h.row,h.ge,by simpa [World.setCell] using h.lt⟩
theorem WB.at3 {w wr:World} {g:Nat} {v:Value} (h:WB w wr g v):wr.cell? ⟨g,3,none⟩ = some v:=cell_of_row _ _ 3 _ _ (0,0) h.row
theorem OwnO.drewG {T:Nat → Prop} {w:World} {base:Nat} {v:Value} {l:Obs} (h:OwnO T w base v l):OwnO T w.drew base v l:=h.drew
theorem arr0C (w:World):Calls Tryz.prog 18 #[.slice none 0 0] w fun r w'=>r = .returned (.agg #[.int .i64 6,.int .i64 0,.slice none 0 0,.slice none 0 0,.slice none 0 0]) ∧ Below w.heap.size w w':=by
 have hb1:=(Below.refl w.heap.size w).alloc (Nat.le_refl _) (.cells #[.int .i64 0,.int .i64 0,.slice none 0 0,.slice none 0 0,.slice none 0 0] 27)
 have hn1:=heap_alloc_new w (.cells #[.int .i64 0,.int .i64 0,.slice none 0 0,.slice none 0 0,.slice none 0 0] 27)
 obtain ⟨W0,hW0⟩:∃ W0,w.alloc (.cells #[.int .i64 0,.int .i64 0,.slice none 0 0,.slice none 0 0,.slice none 0 0] 27) = W0:=⟨_,rfl⟩
 have hs0:W0.heap.size = w.heap.size + 1:=by rw [← hW0];simp
 rw [hW0] at hb1 hn1
 have hb2:=(Below.refl W0.heap.size W0).alloc (Nat.le_refl _) (.cells #[.int .i64 6,.int .i64 0,.slice none 0 0,.slice none 0 0,.slice none 0 0] 27)
 have hn2:=heap_alloc_new W0 (.cells #[.int .i64 6,.int .i64 0,.slice none 0 0,.slice none 0 0,.slice none 0 0] 27)
 obtain ⟨W1,hW1⟩:∃ W1,W0.alloc (.cells #[.int .i64 6,.int .i64 0,.slice none 0 0,.slice none 0 0,.slice none 0 0] 27) = W1:=⟨_,rfl⟩
 rw [hW1] at hb2 hn2
 rw [hs0] at hn2
 have HDI:Hid (DiS w W1 (w.heap.size + 2) (.int .i64 6) (.int .i64 0) (.slice none 0 0) (.slice none 0 0) (.slice none 0 0)):=lH ⟨hb1.trans (hb2.mono (by omega)),(hb2.block _ (by omega)).trans hn1,hn2,Nat.le_refl _,by rw [← hW1];simp;omega⟩
 have HS0:=lH hs0
 have HWE:=lH hW1
 clear hW1 hb1 hn1 hb2 hn2 hs0
 go_enter Tryz.func18,Tryz.ntmps18
 go_wp2_with fail
 rw [HWE.out,HS0.out]
 go_loopw [4] (fun iv wr=>iv = .int .i64 0 ∧ Hid (DiS w wr (w.heap.size + 2) (.int .i64 6) (.int .i64 0) (.slice none 0 0) (.slice none 0 0) (.slice none 0 0))) (fun _ _=>0)
 case atStart=>exact ⟨rfl,HDI⟩
 case round =>
  obtain ⟨rfl,HDS⟩:=hrel
  have g0:wr.cell? ⟨w.heap.size + 1,0,none⟩ = some (.int .i64 6):=cell_of_row _ _ 0 _ _ (0,0) HDS.out.out
  have g1:wr.cell? ⟨w.heap.size + 1,1,none⟩ = some (.int .i64 0):=cell_of_row _ _ 1 _ _ (0,0) HDS.out.out
  have g2:wr.cell? ⟨w.heap.size + 1,2,none⟩ = some (.slice none 0 0):=cell_of_row _ _ 2 _ _ (0,0) HDS.out.out
  have g3:wr.cell? ⟨w.heap.size + 1,3,none⟩ = some (.slice none 0 0):=cell_of_row _ _ 3 _ _ (0,0) HDS.out.out
  have g4:wr.cell? ⟨w.heap.size + 1,4,none⟩ = some (.slice none 0 0):=cell_of_row _ _ 4 _ _ (0,0) HDS.out.out
  obtain ⟨q0,q1,q2,q3,q4,q5⟩:=zero_cells HDS.out.res
  go_wp2_with fail
  refine bodyPost_ret (results_cell_row rfl _ _ w.heap.size 27 _ (0,0) _ rfl (set5_row HDS.out.res) Tryz.underlying27 rfl (by kernel_rfl)) rfl ?_
  exact ⟨rfl,below_set5 HDS.out.low (Nat.le_refl _)⟩
end
section
open Go.RowKit
abbrev zRW:List Int:=[91,49,32,48,32,82,32,50,32,48,32,110,117,108,108,93]
abbrev oRW:Ob:=.mk 6 0 [] (.cons (.mk 9 1 [] .nil .nil) (.cons (.mk 2 2 [] .nil .nil) (.cons (.mk 2 0 [] .nil .nil) (.cons (.mk 0 0 [] .nil .nil) .nil)))) .nil
theorem allRW:allR zRW (dpZ 9) 20 = ⟨0,oRW,0⟩:=by kernel_rfl
set_option maxHeartbeats 2000000 in
theorem awake_any12 (w:World):Calls Tryz.prog 8 #[] w fun e w'=>e = .returned (.bool true) ∧ Below w.heap.size w w':=by
 have hby:=(byt_lit w (16,17) zRW (by decide) 16 rfl _ rfl)
 have hbl:=(Below.refl w.heap.size w).alloc (Nat.le_refl _) (.cells (List.map (Value.int .u8) zRW).toArray 5 (16,17))
 obtain ⟨w1,hw1⟩:∃ w1,w.alloc (.cells (List.map (Value.int .u8) zRW).toArray 5 (16,17)) = w1:=⟨_,rfl⟩
 have hs1:w1.heap.size = w.heap.size + 1:=by rw [← hw1];simp
 rw [hw1,← hs1] at hby
 rw [hw1] at hbl
 have hal:=pAllC _ 16 16 9 zRW w1 20 hby (by omega) (by omega) (by omega)
 rw [allRW] at hal
 have HAL:=lH hal
 have HBL:=lH hbl
 have HW1:=lH hw1
 have kc:=fun (w:World) (C:Array Value) (n c:Nat)=>Lib.run_convert_bytes_const (P:=Tryz.prog) w 23 5 C n c Tryz.underlying23 Tryz.underlying5
 clear hby hbl hs1 hw1 hal
 go_enter Tryz.func8,Tryz.ntmps8
 go_upto_region 2 with (first
  | (go_at_call 9;(try simp only [List.map] at HW1);rw [show (w.alloc _) = w1 from HW1.out];refine HAL.out.mono ?_;(rintro r w5 ⟨d0,d1,d2,d3,d4,hrr,hob,hb5⟩);(try dsimp only at hrr hob);subst hrr;obtain ⟨k5,n5,A5,m5,e5,A6,m6,e6,A7,m7,e7,rfl,rfl,rfl,rfl,rfl⟩:=hob.shp;have HOX:=lH hob;have HB5:=lH hb5;clear hob hb5))
 have hb8:=(Below.refl w5.heap.size w5).alloc (Nat.le_refl _) (.cells #[.int .i64 k5,.int .i64 n5,.slice A5 m5 e5,.slice A6 m6 e6,.slice A7 m7 e7] 27)
 have hn8:=heap_alloc_new w5 (.cells #[.int .i64 k5,.int .i64 n5,.slice A5 m5 e5,.slice A6 m6 e6,.slice A7 m7 e7] 27)
 obtain ⟨w8,hw8⟩:∃ w8,w5.alloc (.cells #[.int .i64 k5,.int .i64 n5,.slice A5 m5 e5,.slice A6 m6 e6,.slice A7 m7 e7] 27) = w8:=⟨_,rfl⟩
 rw [hw8] at hb8 hn8
 rw [hw8]
 have hox:=ObR.keep (S':=fun y=>y < w8.heap.size) (fun b hb=>hb8.block b hb.2) (fun b hb=>Nat.lt_of_lt_of_le hb.2 hb8.size) _ HOX.out
 have n0:=cell_of_row w8 w5.heap.size 0 _ _ (0,0) hn8
 have n3:=cell_of_row w8 w5.heap.size 3 _ _ (0,0) hn8
 have HBE:=lH ((HBL.out.trans (HB5.out.mono HBL.out.size)).trans (hb8.mono (Nat.le_trans HBL.out.size HB5.out.size)))
 clear hn8 hw8 hb8
 unfold ObR at hox
 obtain ⟨e0,-,-,-,-,⟨AL,cL,e3,hcL,hLL⟩,-⟩:=hox
 injection e0 with _ e0
 injection e3 with e31 e32 e33
 subst e0 e31 e32 e33
 obtain ⟨g,o,rfl,_,hob⟩:=hLL (by decide)
 obtain ⟨a0,a1,a2,a3,a4,x0,_,_,_,_,hx0⟩:=ObsR.get _ g o 0 _ hob rfl
 obtain ⟨b0,b1,b2,b3,b4,_,y1,_,_,_,hx1⟩:=ObsR.get _ g o 1 _ hob rfl
 obtain ⟨c0,c1,c2,c3,c4,z0,_,_,_,_,hx3⟩:=ObsR.get _ g o 3 _ hob rfl
 unfold ObR at hx0 hx1 hx3
 obtain ⟨rfl,-⟩:=hx0
 obtain ⟨-,rfl,-⟩:=hx1
 obtain ⟨rfl,-⟩:=hx3
 have p0:w8.cell? ⟨g,o,none⟩ = some (.int .i64 9):=x0
 have p1:w8.cell? ⟨g,o + 5 + 1,none⟩ = some (.int .i64 2):=y1
 have p3:w8.cell? ⟨g,o + 15,none⟩ = some (.int .i64 0):=z0
 clear hob hLL x0 y1 z0
 go_wp2_with fail
 go_ret
 exact ⟨rfl,HBE.out⟩
end
end Go.Proofs.YtpomkhcobpihmaaGreat
