/- Lemmas. -/
import Derived.Shelf.SlSortCmp.NoneTotal
import Derived.Test.YtpomkhcobpihmaaGreatPad44
import Derived.Test.YtpomkhcobpihmaaGreatPad48
namespace Go.Proofs.YtpomkhcobpihmaaGreat
set_option maxRecDepth 100000
set_option linter.unusedVariables false
section
open Go.RowKit Go.Sort Go.Maps
theorem sortNoneC (A:Option Addr) (cap:Nat) (f:Value) (w:World):Calls Tryz.prog 123 #[.slice A 0 cap,f] w fun e w'=>e = .returned (.tuple #[]) ∧ w' = w :=
 AnyF.slices_SortFunc_none Tryz.sortE A cap f w
theorem ensV_nil (W:World) (S:Nat → Prop):EnsV W S .nil none 0:=⟨by simp [Ens.len],fun h=>absurd h (by simp [Ens.len])⟩
theorem sortEndC {w0 w:World} {AV:Option Addr} {N cV:Nat} {acc:Ens} (ho:OwnE noneT w (w0.heap.size + 1) (.slice AV N cV) (nnE acc)) (hd:DK acc) (hN:N ≤ 1000000000) :
  Calls Tryz.prog 123 #[.slice AV N cV,.func (.func 124) #[] #[]] w fun e w'=>e = .returned (.tuple #[]) ∧ EnsV w' (nwT w0 w') (dictF acc .nil) AV cV ∧ (dictF acc .nil).len = N ∧ Below (w0.heap.size + 1) w w':=by
 obtain ⟨hl,hc,rs,e1,e2,hx⟩:=ho.rows
 rcases Nat.eq_zero_or_pos N with h0 | h0
 ·subst h0
  have hr:rs = []:=List.eq_nil_of_length_eq_zero e2
  subst hr
  have hdd:=dict_sorted acc [] hd (by rw [← e1]) List.Pairwise.nil
  have hdn:dictF acc .nil = .nil:=by rw [← Ens.of_to (dictF acc .nil),← hdd];rfl
  refine (sortNoneC _ _ _ _).mono fun e w' ⟨he,hw⟩=>?_
  subst hw
  rw [hdn]
  exact ⟨he,⟨hc,fun h=>absurd h (by simp [Ens.len])⟩,rfl,Below.refl _ _⟩
 ·obtain ⟨gb,rfl,hb,hlt,hH,hrw⟩:=hx h0
  subst e2
  refine (sortSomeC rs gb cV w hH hlt hN).mono fun e w' ⟨he,rs',hp,hs,hcell,hon⟩=>?_
  have hdd:=dict_sorted acc rs' hd (by rw [← e1];exact hp.map prR) hs
  have hde:dictF acc .nil = Ens.ofL (rs'.map prR):=by rw [hdd,Ens.of_to]
  have hlen:(dictF acc .nil).len = rs.length:=by rw [hde,Ens.ofL_len,List.length_map];exact hp.length_eq
  have hbel:Below (w0.heap.size + 1) w w':=⟨hon.os,hon.tape,hon.output,hon.size,fun k hk=>hon.block k (by omega) (by omega)⟩
  refine ⟨he,⟨by rw [hlen];exact hc,fun _=>⟨gb,0,rfl,⟨by omega,Nat.lt_of_lt_of_le hlt hon.size⟩,?_⟩⟩,hlen,hbel⟩
  rw [hde]
  exact rows_ens rs' gb 0 hcell fun r hr=>ObR.keep (fun b hb2=>hon.block b hb2.1.2 hb2.2) (fun b hb2=>⟨by have:=hb2.1.1;omega,Nat.lt_of_lt_of_le hb2.1.2 hon.size⟩) r.x (hrw r (hp.mem_iff.1 hr))
def posW (g:Nat) (w:World):Nat:=match w.cell? ⟨g,1,none⟩ with
 | some (.int _ q)=>q.toNat
 | _=>0
theorem PX.pos {w:World} {m h g n c d p:Nat} {A:Option Addr} {zs:List Int} (x:PX w m h g A n c d zs p):posW g w = p:=by
 unfold posW
 rw [x.lx.cu.c1]
 simp
theorem size_maxLen {b:List Int} {s:ByteArray} (h:strOfNums b = s) (hb:b.length ≤ 1000000):s.size ≤ maxLen:=by
 rw [← h,strOfNums_size]
 have:maxLen = 9223372036854775807:=by decide
 omega
set_option maxHeartbeats 4000000 in
theorem entriesC {m h g n c d:Nat} {A:Option Addr} {zs:List Int} (F:Nat) (IH:∀ f,f < F → ValC m h g A n c d zs f):EnsC12 m h g A n c d zs F:=by
 intro dd w p hdd x hf
 obtain ⟨R,hR⟩:∃ R,parF zs F (.ens .nil) dd p = R:=⟨_,rfl⟩
 rw [hR]
 have HR:=lH hR
 have HX:=lH x
 have HF:=lH hf
 have HIH:=lH IH
 have HDD:=lH hdd
 have HLT:Hid (m < w.heap.size ∧ h < w.heap.size ∧ g < w.heap.size):=lH ⟨x.lt,x.lx.lt,x.lx.cu.lt⟩
 have hmm:=@run_makeMap Tryz.prog
 have hb1:=(Below.refl w.heap.size w).alloc (Nat.le_refl _) (.map #[] 0)
 have hm1:=SetS.made w
 obtain ⟨W1,hW1⟩:∃ W1,w.alloc (.map #[] 0) = W1:=⟨_,rfl⟩
 rw [hW1] at hb1 hm1
 have HB1:=lH hb1
 have HM1:=lH hm1
 have HW1:=lH hW1
 clear x hf hR IH hdd hb1 hm1 hW1
 go_enter Tryz.func110,Tryz.ntmps110
 go_wp2_with fail
 rw [HW1.out]
 go_loopw [6] (fun lv wr=>∃ (AV:Option Addr) (N cV q f' M:Nat) (l:Ens),lv = .slice AV N cV ∧ Hid ((nnE l).len = N) ∧ Hid (M ≤ q ∧ N ≤ q) ∧ Hid (PX wr m h g A n c d zs q) ∧ Hid (Only g w wr) ∧ Hid (OwnE noneT wr (w.heap.size + 1) (.slice AV N cV) (nnE l)) ∧ Hid (n - q < f' ∧ f' ≤ F) ∧ Hid (parF zs f' (.ens l) dd q = R) ∧ Hid (SetS wr w.heap.size M (fun s=>hasK s l)) ∧ Hid (DK l) ∧ Hid (w.heap.size + 1 ≤ wr.heap.size)) (fun _ wr=>n + 1 - posW g wr)
 case atStart=>exact ⟨none,0,0,p,F,0,.nil,rfl,lH rfl,lH ⟨Nat.zero_le _,Nat.zero_le _⟩,lH (HX.out.low HB1.out),lH (Only.of_below HB1.out g),lH (OwnE.nil _ _ _),lH ⟨HF.out,Nat.le_refl _⟩,HR,HM1,lH List.Pairwise.nil,lH HM1.out.lt⟩
 case round =>
  obtain ⟨AV,N,cV,q,f',M,l,rfl,HN,HNQ,HXq,HOq,HOW,HFF,HPR,HM,HDK,HBZ⟩:=hrel
  obtain ⟨f,rfl⟩:∃ f,f' = f + 1:=⟨f' - 1,by have:=HFF.out;omega⟩
  have hpr:=HPR.out
  rw [parF] at hpr
  have htk:=ptkC HXq.out
  have hgt:=tokT_gt zs q
  have hbl:=tokT_len zs q
  have hvl:(tokT zs q).e = 0 → (tokT zs q).k ≠ 0 → ∀ W,PX W m h g A n c d zs (tokT zs q).q → Calls Tryz.prog 38 #[.pointer (some ⟨m,0,none⟩),.int .i64 dd] W (VaP m h g A n c d zs W (parF zs f .val dd (tokT zs q).q)):=fun h0 hk W hW=>HIH.out f (by have:=HFF.out;omega) dd W _ HDD.out hW (by have:=tokT_gt zs q h0 hk;have:=hW.lx.pl;have:=HFF.out;omega)
  have hpq:=parF_q zs f .val dd (tokT zs q).q
  obtain ⟨V,hV⟩:∃ V,parF zs f .val dd (tokT zs q).q = V:=⟨_,rfl⟩
  rw [hV] at hvl hpr hpq
  obtain ⟨T,hT⟩:∃ T,tokT zs q = T:=⟨_,rfl⟩
  obtain ⟨bp,hbp⟩:∃ bp,blkP zs q = bp:=⟨_,rfl⟩
  have hbn:bp ≤ n:=by have:=(blkP_le zs q HXq.out.pz).2;rw [HXq.out.len,hbp] at this;exact this
  rw [hT] at hvl hpr hpq htk hgt hbl
  rw [hbp] at hpr htk
  obtain ⟨e,k,v,b,q2⟩:=T
  dsimp only at hvl hpr hpq htk hgt hbl
  obtain ⟨s,hs⟩:∃ s,strOfNums b = s:=⟨_,rfl⟩
  have HSZ:=lH (size_maxLen hs hbl)
  have HS:=lH hs
  rw [hs] at hpr
  obtain ⟨hk,hhk⟩:∃ hk,hasK s l = hk:=⟨_,rfl⟩
  have HHK:=lH hhk
  rw [hhk] at hpr
  have HTK:=lH htk
  have HBN:=lH hbn
  have k0:=HXq.out.k0
  clear hV hT hbp htk HPR hs hhk hbn hbl
  by_cases he:e = 0
  ·subst he
   rw [if_neg (by decide)] at hpr
   by_cases h8:k = 8
   ·subst h8
    rw [if_pos rfl] at hpr
    have HPR:=lH hpr
    clear hpr hpq hvl hgt
    go_upto_region 4 with (first
     | (go_at_call 50;refine HTK.out.mono ?_;(rintro r w3 ⟨A3,l3,c3,rfl,hx3,ho3,hy3,hf3⟩);have HX3:=lH hx3;have HO3:=lH ho3;have HY3:=lH hy3;clear hx3 ho3 hy3 hf3))
    have hn4:=Bx.new w3 95 (.int .i64 8) (.int .i64 bp) (.int .i64 v) (.slice A3 l3 c3)
    have hx4:=HX3.out.alloc (.cells #[.int .i64 8,.int .i64 bp,.int .i64 v,.slice A3 l3 c3] 95)
    have ho4:=HO3.out.alloc (.cells #[.int .i64 8,.int .i64 bp,.int .i64 v,.slice A3 l3 c3] 95)
    have hy4:=HY3.out.alloc (Nat.le_refl _) (.cells #[.int .i64 8,.int .i64 bp,.int .i64 v,.slice A3 l3 c3] 95)
    obtain ⟨w4,hw4⟩:∃ w4,w3.alloc (.cells #[.int .i64 8,.int .i64 bp,.int .i64 v,.slice A3 l3 c3] 95) = w4:=⟨_,rfl⟩
    have hs4:w3.heap.size ≤ w4.heap.size:=by rw [← hw4];simp
    rw [hw4] at hn4 hx4 ho4 hy4
    rw [hw4]
    have t0:=hn4.c0
    have t1:=hn4.c1
    have t2:=hn4.c2
    have t3:=hn4.c3
    have HN4:=lH hn4
    have HX4:=lH hx4
    have HO4:=lH ho4
    have HY4:=lH (hy4.more hs4)
    have HOW4:=lH (HOW.out.keepB ho4 (Nat.lt_succ_of_lt HLT.out.2.2) (fun h=>h))
    have HOG4:=lH (HOq.out.trans ho4)
    clear hn4 hx4 ho4 hy4 hw4 hs4
    have HSE:=lH (sortEndC HOW4.out HDK.out (by have:=HNQ.out;have:=HXq.out.lx.pl;have:=HXq.out.sm;omega))
    go_wp2_with (first
     | (go_at_call 123;refine HSE.out.mono ?_;(rintro r w6 ⟨rfl,hev,hln,hbl⟩);have HEV:=lH hev;have HLN:=lH hln;have HB6:=lH hbl;clear hev hln hbl))
    go_ret2
    rw [← HPR.out]
    exact ⟨AV,cV,dictF l .nil,by rw [HLN.out];rfl,fun _=>rfl,fun h=>absurd rfl h,HEV.out,HX4.out.lowB HB6.out (Nat.lt_succ_of_lt HLT.out.1) (Nat.lt_succ_of_lt HLT.out.2.1) (Nat.lt_succ_of_lt HLT.out.2.2),HOG4.out.lowB (HB6.out.mono (Nat.le_succ _))⟩
   ·rw [if_neg h8] at hpr
    have h8b:(k == 8) = false:=beq_eq_false_iff_ne.2 h8
    clear h8
    by_cases hC:k ≠ 4 ∨ hk = true
    ·have hR:noR (wrgZ k) bp = R:=by
      unfold wrgZ
      by_cases h0:k = 0
      ·rw [if_pos h0] at hpr ⊢;exact hpr
      ·rw [if_neg h0] at hpr ⊢
       rw [if_pos hC] at hpr
       exact hpr
     have HPR:=lH hR
     have hWN:wrgZ k ≠ 0:=by unfold wrgZ;split <;> decide
     have HWN:=lH hWN
     clear hpr hpq hvl hgt hR hWN
     rcases hk with _ | _
     ·have h4:k ≠ 4:=hC.elim id (fun h=>by cases h)
      have h4b:(k == 4) = false:=beq_eq_false_iff_ne.2 h4
      clear hC h4
      go_upto_region 4 with (first
       | (go_at_call 50;refine HTK.out.mono ?_;(rintro r w3 ⟨A3,l3,c3,rfl,hx3,ho3,hy3,hf3⟩);have HX3:=lH hx3;have HO3:=lH ho3;have HY3:=lH hy3;clear hx3 ho3 hy3 hf3))
      have hn4:=Bx.new w3 95 (.int .i64 k) (.int .i64 bp) (.int .i64 v) (.slice A3 l3 c3)
      have hx4:=HX3.out.alloc (.cells #[.int .i64 k,.int .i64 bp,.int .i64 v,.slice A3 l3 c3] 95)
      have ho4:=HO3.out.alloc (.cells #[.int .i64 k,.int .i64 bp,.int .i64 v,.slice A3 l3 c3] 95)
      have hy4:=HY3.out.alloc (Nat.le_refl _) (.cells #[.int .i64 k,.int .i64 bp,.int .i64 v,.slice A3 l3 c3] 95)
      obtain ⟨w4,hw4⟩:∃ w4,w3.alloc (.cells #[.int .i64 k,.int .i64 bp,.int .i64 v,.slice A3 l3 c3] 95) = w4:=⟨_,rfl⟩
      have hs4:w3.heap.size ≤ w4.heap.size:=by rw [← hw4];simp
      rw [hw4] at hn4 hx4 ho4 hy4
      rw [hw4]
      have t0:=hn4.c0
      have t1:=hn4.c1
      have t2:=hn4.c2
      have t3:=hn4.c3
      have HN4:=lH hn4
      have HX4:=lH hx4
      have HO4:=lH ho4
      have HY4:=lH (hy4.more hs4)
      have HOW4:=lH (HOW.out.keepB ho4 (Nat.lt_succ_of_lt HLT.out.2.2) (fun h=>h))
      have HOG4:=lH (HOq.out.trans ho4)
      clear hn4 hx4 ho4 hy4 hw4 hs4
      have HM4:=lH (HM.out.keep (HO4.out.block w.heap.size HM.out.lt (Nat.ne_of_gt HLT.out.2.2)))
      have hcv:=conv_str HY4.out _ rfl
      rw [HS.out] at hcv
      have hlk:=HM4.out.look s HSZ.out
      rw [HHK.out] at hlk
      have k4:=HX4.out.k0
      go_upto_region 11 with (first
       | (at_lookup;refine wpList_lookup_run rfl _ _ _ rfl _ _ _ rfl rfl hlk ?_))
      have hb5:=(Below.refl w4.heap.size w4).alloc (Nat.le_refl _) (.cells #[] 130)
      obtain ⟨w5,hw5⟩:∃ w5,w4.alloc (.cells #[] 130) = w5:=⟨_,rfl⟩
      rw [hw5] at hb5
      rw [hw5]
      have HX5:=lH (HX4.out.low hb5)
      have HO5:=lH (HOG4.out.trans (Only.of_below hb5 g))
      have HOW5:=lH (HOW4.out.low hb5)
      have HM5:=lH (HM4.out.keep (hb5.block w.heap.size HM4.out.lt))
      have HN5:=lH (HN4.out.below hb5 HN4.out.lt)
      have HSM5:=lH hb5.size
      clear t0 t1 t2 t3 hcv hlk hb5 hw5
      have t0:=HN5.out.c0
      have t1:=HN5.out.c1
      have t2:=HN5.out.c2
      have t3:=HN5.out.c3
      have k5:=HX5.out.k0
      have HWR:=lH (wrongC HX5.out k v bp A3 l3 c3 HBN.out)
      obtain ⟨WZ,hWZ⟩:∃ WZ,wrgZ k = WZ:=⟨_,rfl⟩
      rw [hWZ] at HWR HPR HWN
      clear hWZ
      go_wp2_with (first
       | (go_at_call 51;refine HWR.out.mono ?_;(rintro r w6 ⟨rfl,hx6,ho6⟩);have HX6:=lH hx6;have HO6:=lH ho6;clear hx6 ho6))
      go_ret2
      rw [← HPR.out]
      exact ⟨none,0,.nil,rfl,fun h=>absurd h HWN.out,fun _=>rfl,ensV_nil _ _,HX6.out,HO5.out.trans HO6.out⟩
     ·clear hC
      go_upto_region 4 with (first
       | (go_at_call 50;refine HTK.out.mono ?_;(rintro r w3 ⟨A3,l3,c3,rfl,hx3,ho3,hy3,hf3⟩);have HX3:=lH hx3;have HO3:=lH ho3;have HY3:=lH hy3;clear hx3 ho3 hy3 hf3))
      have hn4:=Bx.new w3 95 (.int .i64 k) (.int .i64 bp) (.int .i64 v) (.slice A3 l3 c3)
      have hx4:=HX3.out.alloc (.cells #[.int .i64 k,.int .i64 bp,.int .i64 v,.slice A3 l3 c3] 95)
      have ho4:=HO3.out.alloc (.cells #[.int .i64 k,.int .i64 bp,.int .i64 v,.slice A3 l3 c3] 95)
      have hy4:=HY3.out.alloc (Nat.le_refl _) (.cells #[.int .i64 k,.int .i64 bp,.int .i64 v,.slice A3 l3 c3] 95)
      obtain ⟨w4,hw4⟩:∃ w4,w3.alloc (.cells #[.int .i64 k,.int .i64 bp,.int .i64 v,.slice A3 l3 c3] 95) = w4:=⟨_,rfl⟩
      have hs4:w3.heap.size ≤ w4.heap.size:=by rw [← hw4];simp
      rw [hw4] at hn4 hx4 ho4 hy4
      rw [hw4]
      have t0:=hn4.c0
      have t1:=hn4.c1
      have t2:=hn4.c2
      have t3:=hn4.c3
      have HN4:=lH hn4
      have HX4:=lH hx4
      have HO4:=lH ho4
      have HY4:=lH (hy4.more hs4)
      have HOW4:=lH (HOW.out.keepB ho4 (Nat.lt_succ_of_lt HLT.out.2.2) (fun h=>h))
      have HOG4:=lH (HOq.out.trans ho4)
      clear hn4 hx4 ho4 hy4 hw4 hs4
      have HM4:=lH (HM.out.keep (HO4.out.block w.heap.size HM.out.lt (Nat.ne_of_gt HLT.out.2.2)))
      have hcv:=conv_str HY4.out _ rfl
      rw [HS.out] at hcv
      have hlk:=HM4.out.look s HSZ.out
      rw [HHK.out] at hlk
      have k4:=HX4.out.k0
      go_upto_region 11 with (first
       | (at_lookup;refine wpList_lookup_run rfl _ _ _ rfl _ _ _ rfl rfl hlk ?_))
      have hb5:=(Below.refl w4.heap.size w4).alloc (Nat.le_refl _) (.cells #[] 130)
      obtain ⟨w5,hw5⟩:∃ w5,w4.alloc (.cells #[] 130) = w5:=⟨_,rfl⟩
      rw [hw5] at hb5
      rw [hw5]
      have HX5:=lH (HX4.out.low hb5)
      have HO5:=lH (HOG4.out.trans (Only.of_below hb5 g))
      have HOW5:=lH (HOW4.out.low hb5)
      have HM5:=lH (HM4.out.keep (hb5.block w.heap.size HM4.out.lt))
      have HN5:=lH (HN4.out.below hb5 HN4.out.lt)
      have HSM5:=lH hb5.size
      clear t0 t1 t2 t3 hcv hlk hb5 hw5
      have t0:=HN5.out.c0
      have t1:=HN5.out.c1
      have t2:=HN5.out.c2
      have t3:=HN5.out.c3
      have k5:=HX5.out.k0
      have HWR:=lH (wrongC HX5.out k v bp A3 l3 c3 HBN.out)
      obtain ⟨WZ,hWZ⟩:∃ WZ,wrgZ k = WZ:=⟨_,rfl⟩
      rw [hWZ] at HWR HPR HWN
      clear hWZ
      go_wp2_with (first
       | (go_at_call 51;refine HWR.out.mono ?_;(rintro r w6 ⟨rfl,hx6,ho6⟩);have HX6:=lH hx6;have HO6:=lH ho6;clear hx6 ho6))
      go_ret2
      rw [← HPR.out]
      exact ⟨none,0,.nil,rfl,fun h=>absurd h HWN.out,fun _=>rfl,ensV_nil _ _,HX6.out,HO5.out.trans HO6.out⟩
    ·obtain ⟨rfl,rfl⟩:k = 4 ∧ hk = false:=by
      constructor
      ·exact Classical.byContradiction fun h=>hC (.inl h)
      ·cases hk with
       | false=>rfl
       | true=>exact absurd (.inr rfl) hC
     rw [if_neg (by decide),if_neg hC] at hpr
     have HVL:=lH (hvl rfl (by decide))
     have HGT:=lH (hgt rfl (by decide))
     clear hvl hgt hC
     by_cases hE:V.e = 0
     ·rw [if_neg (fun h=>h hE)] at hpr
      have HPQ:=lH (hpq hE)
      have HPR:=lH hpr
      obtain ⟨E,X,q5⟩:=V
      dsimp only at hE HPQ HPR
      subst hE
      clear hpr hpq
      go_upto_region 4 with (first
       | (go_at_call 50;refine HTK.out.mono ?_;(rintro r w3 ⟨A3,l3,c3,rfl,hx3,ho3,hy3,hf3⟩);have HX3:=lH hx3;have HO3:=lH ho3;have HY3:=lH hy3;clear hx3 ho3 hy3 hf3))
      have hn4:=Bx.new w3 95 (.int .i64 4) (.int .i64 bp) (.int .i64 v) (.slice A3 l3 c3)
      have hx4:=HX3.out.alloc (.cells #[.int .i64 4,.int .i64 bp,.int .i64 v,.slice A3 l3 c3] 95)
      have ho4:=HO3.out.alloc (.cells #[.int .i64 4,.int .i64 bp,.int .i64 v,.slice A3 l3 c3] 95)
      have hy4:=HY3.out.alloc (Nat.le_refl _) (.cells #[.int .i64 4,.int .i64 bp,.int .i64 v,.slice A3 l3 c3] 95)
      obtain ⟨w4,hw4⟩:∃ w4,w3.alloc (.cells #[.int .i64 4,.int .i64 bp,.int .i64 v,.slice A3 l3 c3] 95) = w4:=⟨_,rfl⟩
      have hs4:w3.heap.size ≤ w4.heap.size:=by rw [← hw4];simp
      rw [hw4] at hn4 hx4 ho4 hy4
      rw [hw4]
      have t0:=hn4.c0
      have t1:=hn4.c1
      have t2:=hn4.c2
      have t3:=hn4.c3
      have HN4:=lH hn4
      have HX4:=lH hx4
      have HO4:=lH ho4
      have HY4:=lH (hy4.more hs4)
      have HOW4:=lH (HOW.out.keepB ho4 (Nat.lt_succ_of_lt HLT.out.2.2) (fun h=>h))
      have HOG4:=lH (HOq.out.trans ho4)
      clear hn4 hx4 ho4 hy4 hw4 hs4
      have HM4:=lH (HM.out.keep (HO4.out.block w.heap.size HM.out.lt (Nat.ne_of_gt HLT.out.2.2)))
      have hcv:=conv_str HY4.out _ rfl
      rw [HS.out] at hcv
      have hlk:=HM4.out.look s HSZ.out
      rw [HHK.out] at hlk
      have k4:=HX4.out.k0
      go_upto_region 11 with (first
       | (at_lookup;refine wpList_lookup_run rfl _ _ _ rfl _ _ _ rfl rfl hlk ?_))
      have hb5:=(Below.refl w4.heap.size w4).alloc (Nat.le_refl _) (.cells #[] 130)
      obtain ⟨w5,hw5⟩:∃ w5,w4.alloc (.cells #[] 130) = w5:=⟨_,rfl⟩
      rw [hw5] at hb5
      rw [hw5]
      have HX5:=lH (HX4.out.low hb5)
      have HO5:=lH (HOG4.out.trans (Only.of_below hb5 g))
      have HOW5:=lH (HOW4.out.low hb5)
      have HM5:=lH (HM4.out.keep (hb5.block w.heap.size HM4.out.lt))
      have HN5:=lH (HN4.out.below hb5 HN4.out.lt)
      have HSM5:=lH hb5.size
      clear t0 t1 t2 t3 hcv hlk hb5 hw5
      have t0:=HN5.out.c0
      have t1:=HN5.out.c1
      have t2:=HN5.out.c2
      have t3:=HN5.out.c3
      have k5:=HX5.out.k0
      obtain ⟨w6,hrun6,hm6,ho6⟩:=HM5.out.put s HSZ.out (by have:=HNQ.out;have:=HXq.out.lx.pl;have:=HXq.out.sm;unfold maxLen;omega)
      have hb6:=ho6.below (Nat.le_of_lt HM5.out.lt)
      have HX6:=lH (HX5.out.lowB hb6 HLT.out.1 HLT.out.2.1 HLT.out.2.2)
      have HOW6:=lH (HOW5.out.keepB ho6 (Nat.lt_succ_self _) (fun h=>h))
      have HO6:=lH (HO5.out.lowB hb6)
      have HM6:=lH hm6
      have HBZ6:Hid (w.heap.size + 1 ≤ w6.heap.size):=lH (Nat.le_trans (Nat.le_trans HBZ.out (Nat.le_trans HO4.out.size HSM5.out)) ho6.size)
      have k6:=HX6.out.k0
      go_upto_region 14 with (first
       | (at_mapUpdate;refine wpList_mapUpdate_run rfl _ _ _ _ rfl _ _ _ rfl rfl rfl hrun6 ?_))
      clear hrun6 hm6 ho6 hb6
      go_upto_region 15 with (first
       | (go_at_call 38;refine (HVL.out _ HX6.out).mono ?_;(rintro r w7 ⟨d0,d1,d2,d3,d4,hrr,hob,hx7,ho7⟩);(try dsimp only at hrr hob hx7);subst hrr;obtain ⟨k7,n7,A5,m5,e5,A6,m6,e6,A7,m7,e7,rfl,rfl,rfl,rfl,rfl⟩:=hob.shp;have HOB:=lH hob;have HX7:=lH hx7;have HO7:=lH ho7;clear hob hx7 ho7))
      have hk7:=kind_c0 HOB.out
      have HK7:Hid (k7 = X.kind):=lH (by injection hk7)
      have hb8:=(Below.refl w7.heap.size w7).alloc (Nat.le_refl _) (.cells #[.int .i64 k7,.int .i64 n7,.slice A5 m5 e5,.slice A6 m6 e6,.slice A7 m7 e7] 27)
      have hn8:=heap_alloc_new w7 (.cells #[.int .i64 k7,.int .i64 n7,.slice A5 m5 e5,.slice A6 m6 e6,.slice A7 m7 e7] 27)
      obtain ⟨w8,hw8⟩:∃ w8,w7.alloc (.cells #[.int .i64 k7,.int .i64 n7,.slice A5 m5 e5,.slice A6 m6 e6,.slice A7 m7 e7] 27) = w8:=⟨_,rfl⟩
      rw [hw8] at hb8 hn8
      rw [hw8]
      have c0:w8.cell? ⟨w7.heap.size,0,none⟩ = some (.int .i64 k7):=cell_of_row _ _ 0 _ _ (0,0) hn8
      have c1:w8.cell? ⟨w7.heap.size,1,none⟩ = some (.int .i64 n7):=cell_of_row _ _ 1 _ _ (0,0) hn8
      have c2:w8.cell? ⟨w7.heap.size,2,none⟩ = some (.slice A5 m5 e5):=cell_of_row _ _ 2 _ _ (0,0) hn8
      have c3:w8.cell? ⟨w7.heap.size,3,none⟩ = some (.slice A6 m6 e6):=cell_of_row _ _ 3 _ _ (0,0) hn8
      have c4:w8.cell? ⟨w7.heap.size,4,none⟩ = some (.slice A7 m7 e7):=cell_of_row _ _ 4 _ _ (0,0) hn8
      have HB8:=lH hb8
      have HX8:=lH (HX7.out.low hb8)
      have HO8:=lH ((HO6.out.trans HO7.out).trans (Only.of_below hb8 g))
      have HM8:=lH ((HM6.out.keep (HO7.out.block _ HM6.out.lt (Nat.ne_of_gt HLT.out.2.2))).keep (hb8.block _ (Nat.lt_of_lt_of_le HM6.out.lt HO7.out.size)))
      have HFE:Hid ((fun t=>hasK t (l.snoc s X)) = (fun t=>hasK t l || decide (s = t))):=lH (funext fun t=>hasK_snoc t l s X)
      have HBZ8:Hid (w.heap.size + 1 ≤ w8.heap.size):=lH (Nat.le_trans HBZ6.out (Nat.le_trans HO7.out.size hb8.size))
      clear hk7 hb8 hn8 hw8
      by_cases hz:X.kind = 0
      ·have hkk:k7 = 0:=by rw [HK7.out];exact hz
       subst hkk
       have HZ:=lH hz
       clear hz
       go_wp2_with fail
       go_roundw
       case rel=>exact ⟨AV,N,cV,q5,f,M + 1,l.snoc s X,rfl,lH (by rw [nnE_snoc0 l s X HZ.out];exact HN.out),lH (by have:=HNQ.out;have:=HPQ.out;have:=HGT.out;omega),HX8,HO8,lH (by rw [nnE_snoc0 l s X HZ.out];exact (HOW6.out.keepB HO7.out (Nat.lt_succ_of_lt HLT.out.2.2) (fun h=>h)).low HB8.out),lH (by have:=HFF.out;have:=HPQ.out;have:=HGT.out;have:=HX8.out.lx.pl;omega),HPR,lH (by rw [HFE.out];exact HM8.out),lH (HDK.out.snoc s X HHK.out),HBZ8⟩
       case measure=>have:=HX8.out.pos;have:=HXq.out.pos;have:=HPQ.out;have:=HGT.out;have:=HX8.out.lx.pl;omega
      ·have hkk:(k7 == 0) = false:=beq_eq_false_iff_ne.2 (by rw [HK7.out];exact hz)
       have HZ:=lH hz
       have hap:=OwnE.litG HOW6.out HO7.out (Nat.lt_succ_of_lt HLT.out.2.2) (fun h=>h) HB8.out s X HOB.out (by rw [HN.out];have:=HNQ.out;have:=HXq.out.lx.pl;have:=HXq.out.sm;omega) HBZ6.out (fun _ h=>h.elim)
       rw [HN.out] at hap
       have HAP:=lH hap
       clear hz hap
       go_wp2_with (first
        | (at_builtin;obtain ⟨A9,c9,w9,hrun,ho9,hb9⟩:=HAP.out;refine Lib.wpList_append_run_sl _ rfl (.tmp 65) (.tmp 69) 25 rfl _ _ rfl rfl hrun ?_;clear hrun;have HOW9:=lH ho9;have HB9:=lH hb9;clear ho9 hb9))
       go_roundw
       case rel=>exact ⟨A9,N + 1,c9,q5,f,M + 1,l.snoc s X,rfl,lH (by rw [nnE_snoc1 l s X HZ.out,Ens.snoc_len,HN.out]),lH (by have:=HNQ.out;have:=HPQ.out;have:=HGT.out;omega),lH (HX8.out.lowB HB9.out (Nat.lt_succ_of_lt HLT.out.1) (Nat.lt_succ_of_lt HLT.out.2.1) (Nat.lt_succ_of_lt HLT.out.2.2)),lH (HO8.out.lowB (HB9.out.mono (Nat.le_succ _))),lH (by rw [nnE_snoc1 l s X HZ.out];exact HOW9.out),lH (by have:=HFF.out;have:=HPQ.out;have:=HGT.out;have:=HX8.out.lx.pl;omega),HPR,lH (by rw [HFE.out];exact HM8.out.keep (HB9.out.block _ (Nat.lt_succ_self _))),lH (HDK.out.snoc s X HHK.out),lH (Nat.le_trans HBZ8.out HB9.out.size)⟩
       case measure=>have:=(HX8.out.lowB HB9.out (Nat.lt_succ_of_lt HLT.out.1) (Nat.lt_succ_of_lt HLT.out.2.1) (Nat.lt_succ_of_lt HLT.out.2.2)).pos;have:=HXq.out.pos;have:=HPQ.out;have:=HGT.out;have:=HX8.out.lx.pl;omega
     ·rw [if_pos hE] at hpr
      have HPR:=lH hpr
      obtain ⟨E,X,q5⟩:=V
      dsimp only at hE HPR
      have hEb:(E == 0) = false:=beq_eq_false_iff_ne.2 hE
      have HE:=lH hE
      clear hpr hpq hE
      go_upto_region 4 with (first
       | (go_at_call 50;refine HTK.out.mono ?_;(rintro r w3 ⟨A3,l3,c3,rfl,hx3,ho3,hy3,hf3⟩);have HX3:=lH hx3;have HO3:=lH ho3;have HY3:=lH hy3;clear hx3 ho3 hy3 hf3))
      have hn4:=Bx.new w3 95 (.int .i64 4) (.int .i64 bp) (.int .i64 v) (.slice A3 l3 c3)
      have hx4:=HX3.out.alloc (.cells #[.int .i64 4,.int .i64 bp,.int .i64 v,.slice A3 l3 c3] 95)
      have ho4:=HO3.out.alloc (.cells #[.int .i64 4,.int .i64 bp,.int .i64 v,.slice A3 l3 c3] 95)
      have hy4:=HY3.out.alloc (Nat.le_refl _) (.cells #[.int .i64 4,.int .i64 bp,.int .i64 v,.slice A3 l3 c3] 95)
      obtain ⟨w4,hw4⟩:∃ w4,w3.alloc (.cells #[.int .i64 4,.int .i64 bp,.int .i64 v,.slice A3 l3 c3] 95) = w4:=⟨_,rfl⟩
      have hs4:w3.heap.size ≤ w4.heap.size:=by rw [← hw4];simp
      rw [hw4] at hn4 hx4 ho4 hy4
      rw [hw4]
      have t0:=hn4.c0
      have t1:=hn4.c1
      have t2:=hn4.c2
      have t3:=hn4.c3
      have HN4:=lH hn4
      have HX4:=lH hx4
      have HO4:=lH ho4
      have HY4:=lH (hy4.more hs4)
      have HOW4:=lH (HOW.out.keepB ho4 (Nat.lt_succ_of_lt HLT.out.2.2) (fun h=>h))
      have HOG4:=lH (HOq.out.trans ho4)
      clear hn4 hx4 ho4 hy4 hw4 hs4
      have HM4:=lH (HM.out.keep (HO4.out.block w.heap.size HM.out.lt (Nat.ne_of_gt HLT.out.2.2)))
      have hcv:=conv_str HY4.out _ rfl
      rw [HS.out] at hcv
      have hlk:=HM4.out.look s HSZ.out
      rw [HHK.out] at hlk
      have k4:=HX4.out.k0
      go_upto_region 11 with (first
       | (at_lookup;refine wpList_lookup_run rfl _ _ _ rfl _ _ _ rfl rfl hlk ?_))
      have hb5:=(Below.refl w4.heap.size w4).alloc (Nat.le_refl _) (.cells #[] 130)
      obtain ⟨w5,hw5⟩:∃ w5,w4.alloc (.cells #[] 130) = w5:=⟨_,rfl⟩
      rw [hw5] at hb5
      rw [hw5]
      have HX5:=lH (HX4.out.low hb5)
      have HO5:=lH (HOG4.out.trans (Only.of_below hb5 g))
      have HOW5:=lH (HOW4.out.low hb5)
      have HM5:=lH (HM4.out.keep (hb5.block w.heap.size HM4.out.lt))
      have HN5:=lH (HN4.out.below hb5 HN4.out.lt)
      have HSM5:=lH hb5.size
      clear t0 t1 t2 t3 hcv hlk hb5 hw5
      have t0:=HN5.out.c0
      have t1:=HN5.out.c1
      have t2:=HN5.out.c2
      have t3:=HN5.out.c3
      have k5:=HX5.out.k0
      obtain ⟨w6,hrun6,hm6,ho6⟩:=HM5.out.put s HSZ.out (by have:=HNQ.out;have:=HXq.out.lx.pl;have:=HXq.out.sm;unfold maxLen;omega)
      have hb6:=ho6.below (Nat.le_of_lt HM5.out.lt)
      have HX6:=lH (HX5.out.lowB hb6 HLT.out.1 HLT.out.2.1 HLT.out.2.2)
      have HOW6:=lH (HOW5.out.keepB ho6 (Nat.lt_succ_self _) (fun h=>h))
      have HO6:=lH (HO5.out.lowB hb6)
      have HM6:=lH hm6
      have HBZ6:Hid (w.heap.size + 1 ≤ w6.heap.size):=lH (Nat.le_trans (Nat.le_trans HBZ.out (Nat.le_trans HO4.out.size HSM5.out)) ho6.size)
      have k6:=HX6.out.k0
      go_upto_region 14 with (first
       | (at_mapUpdate;refine wpList_mapUpdate_run rfl _ _ _ _ rfl _ _ _ rfl rfl rfl hrun6 ?_))
      clear hrun6 hm6 ho6 hb6
      go_upto_region 15 with (first
       | (go_at_call 38;refine (HVL.out _ HX6.out).mono ?_;(rintro r w7 ⟨d0,d1,d2,d3,d4,hrr,hob,hx7,ho7⟩);(try dsimp only at hrr hob hx7);subst hrr;obtain ⟨k7,n7,A5,m5,e5,A6,m6,e6,A7,m7,e7,rfl,rfl,rfl,rfl,rfl⟩:=hob.shp;have HOB:=lH hob;have HX7:=lH hx7;have HO7:=lH ho7;clear hob hx7 ho7))
      have hk7:=kind_c0 HOB.out
      have HK7:Hid (k7 = X.kind):=lH (by injection hk7)
      have hb8:=(Below.refl w7.heap.size w7).alloc (Nat.le_refl _) (.cells #[.int .i64 k7,.int .i64 n7,.slice A5 m5 e5,.slice A6 m6 e6,.slice A7 m7 e7] 27)
      have hn8:=heap_alloc_new w7 (.cells #[.int .i64 k7,.int .i64 n7,.slice A5 m5 e5,.slice A6 m6 e6,.slice A7 m7 e7] 27)
      obtain ⟨w8,hw8⟩:∃ w8,w7.alloc (.cells #[.int .i64 k7,.int .i64 n7,.slice A5 m5 e5,.slice A6 m6 e6,.slice A7 m7 e7] 27) = w8:=⟨_,rfl⟩
      rw [hw8] at hb8 hn8
      rw [hw8]
      have c0:w8.cell? ⟨w7.heap.size,0,none⟩ = some (.int .i64 k7):=cell_of_row _ _ 0 _ _ (0,0) hn8
      have c1:w8.cell? ⟨w7.heap.size,1,none⟩ = some (.int .i64 n7):=cell_of_row _ _ 1 _ _ (0,0) hn8
      have c2:w8.cell? ⟨w7.heap.size,2,none⟩ = some (.slice A5 m5 e5):=cell_of_row _ _ 2 _ _ (0,0) hn8
      have c3:w8.cell? ⟨w7.heap.size,3,none⟩ = some (.slice A6 m6 e6):=cell_of_row _ _ 3 _ _ (0,0) hn8
      have c4:w8.cell? ⟨w7.heap.size,4,none⟩ = some (.slice A7 m7 e7):=cell_of_row _ _ 4 _ _ (0,0) hn8
      have HB8:=lH hb8
      have HX8:=lH (HX7.out.low hb8)
      have HO8:=lH ((HO6.out.trans HO7.out).trans (Only.of_below hb8 g))
      have HM8:=lH ((HM6.out.keep (HO7.out.block _ HM6.out.lt (Nat.ne_of_gt HLT.out.2.2))).keep (hb8.block _ (Nat.lt_of_lt_of_le HM6.out.lt HO7.out.size)))
      have HFE:Hid ((fun t=>hasK t (l.snoc s X)) = (fun t=>hasK t l || decide (s = t))):=lH (funext fun t=>hasK_snoc t l s X)
      have HBZ8:Hid (w.heap.size + 1 ≤ w8.heap.size):=lH (Nat.le_trans HBZ6.out (Nat.le_trans HO7.out.size hb8.size))
      clear hk7 hb8 hn8 hw8
      go_wp2_with fail
      go_ret2
      rw [← HPR.out]
      exact ⟨none,0,.nil,rfl,fun h=>absurd h HE.out,fun _=>rfl,ensV_nil _ _,HX8.out,HO8.out⟩
  ·rw [if_pos he] at hpr
   have HPR:=lH hpr
   have heb:(e == 0) = false:=beq_eq_false_iff_ne.2 he
   have HE:=lH he
   clear hpr hpq hvl hgt he
   go_wp2_with (first
    | (go_at_call 50;refine HTK.out.mono ?_;(rintro r w3 ⟨A3,l3,c3,rfl,hx3,ho3,hy3,hf3⟩);have HX3:=lH hx3;have HO3:=lH ho3;clear hx3 ho3 hy3 hf3))
   go_ret2
   rw [← HPR.out]
   exact ⟨none,0,.nil,rfl,fun h=>absurd h HE.out,fun _=>rfl,ensV_nil _ _,HX3.out.alloc _,(HOq.out.trans HO3.out).alloc _⟩
end
section
open Go.RowKit
theorem parC (m h g:Nat) (A:Option Addr) (n c d:Nat) (zs:List Int):∀ F,ItsC m h g A n c d zs F ∧ EnsC12 m h g A n c d zs F ∧ ValC m h g A n c d zs F:=by
 intro F
 induction F using Nat.strongRecOn with
 | _ F ih =>
  refine ⟨itemsC F fun f hf=>⟨(ih f hf).1,(ih f hf).2.1⟩,entriesC F fun f hf=>(ih f hf).2.2,?_⟩
  cases F with
  | zero=>exact fun _ _ _ _ _ hf=>absurd hf (Nat.not_lt_zero _)
  | succ f=>exact valueC f ⟨(ih f (Nat.lt_succ_self f)).1,(ih f (Nat.lt_succ_self f)).2.1⟩
def dpZ (d:Int):Nat:=if d < 0 then 0 else if 28 < d then 28 else d.toNat
theorem dpZ_le (d:Int):dpZ d ≤ 28:=by unfold dpZ;split <;> (try split) <;> omega
theorem emptyC {w:World} {m h g n c d p:Nat} {A:Option Addr} {zs:List Int} (x:PX w m h g A n c d zs p) :
  Calls Tryz.prog 26 #[.pointer (some ⟨m,0,none⟩)] w fun r w'=>r = .returned (.bool false) ∧ w = w':=by
 have k0:=x.k0
 clear x
 go_enter Tryz.func26,Tryz.ntmps26
 go_wp2_with fail
 go_ret
 exact ⟨rfl,rfl⟩
theorem pnewC (A:Option Addr) (n c:Nat) (d:Int) (zs:List Int) (w:World) (hb:Byt w w.heap.size A n c zs) (hn:n ≤ 900000) (hd:-9223372036854775808 ≤ d ∧ d ≤ 9223372036854775807) :
  Calls Tryz.prog 10 #[.slice A n c,.int .i64 d] w fun r w'=>r = .returned (.pointer (some ⟨w.heap.size + 2,0,none⟩)) ∧ PX w' (w.heap.size + 2) (w.heap.size + 1) w.heap.size A n c (dpZ d) zs 0 ∧ Below w.heap.size w w':=by
 have HLN:=lH (plnewC A n c w)
 have HB:=lH hb
 have HNN:=lH hn
 have fin:∀ (w2:World) (D:Nat),LX w2 (w.heap.size + 1) w.heap.size A n c 0 → w2.heap.size = w.heap.size + 2 → Below w.heap.size w w2 → PX (w2.alloc (.cells #[.pointer (some ⟨w.heap.size + 1,0,none⟩),.int .i64 D] 66)) (w.heap.size + 2) (w.heap.size + 1) w.heap.size A n c D zs 0 ∧ Below w.heap.size w (w2.alloc (.cells #[.pointer (some ⟨w.heap.size + 1,0,none⟩),.int .i64 D] 66)):=by
  intro w2 D hl hs hbl
  have h1:=(Below.refl w2.heap.size w2).alloc (Nat.le_refl _) (.cells #[.pointer (some ⟨w.heap.size + 1,0,none⟩),.int .i64 D] 66)
  have h2:=heap_alloc_new w2 (.cells #[.pointer (some ⟨w.heap.size + 1,0,none⟩),.int .i64 D] 66)
  rw [hs] at h2
  have h3:=hbl.trans (h1.mono hbl.size)
  exact ⟨⟨h2,hl.below h1 hl.lt hl.cu.lt,hb.below h3 (Nat.le_refl _),by omega,hn⟩,h3⟩
 have HFIN:=lH fin
 clear hb hn fin
 unfold dpZ
 by_cases h1:d < 0
 ·rw [if_pos h1]
  have m1:max d 0 = 0:=by omega
  have m2:min (0:Int) 28 = 0:=by omega
  clear hd
  go_enter Tryz.func10,Tryz.ntmps10
  go_wp2_with (first
   | (go_at_call 25;refine HLN.out.mono ?_;(rintro r w2 ⟨rfl,hl2,hs2,hb2⟩);have HL2:=lH hl2;have HS2:=lH hs2;have HB2:=lH hb2;clear hl2 hs2 hb2))
  go_ret
  exact ⟨by rw [HS2.out];rfl,HFIN.out _ 0 HL2.out HS2.out HB2.out⟩
 ·rw [if_neg h1]
  by_cases h2:28 < d
  ·rw [if_pos h2]
   have m1:max d 0 = d:=by omega
   have m2:min d 28 = 28:=by omega
   clear hd
   go_enter Tryz.func10,Tryz.ntmps10
   go_wp2_with (first
    | (go_at_call 25;refine HLN.out.mono ?_;(rintro r w2 ⟨rfl,hl2,hs2,hb2⟩);have HL2:=lH hl2;have HS2:=lH hs2;have HB2:=lH hb2;clear hl2 hs2 hb2))
   go_ret
   exact ⟨by rw [HS2.out];rfl,HFIN.out _ 28 HL2.out HS2.out HB2.out⟩
  ·rw [if_neg h2]
   obtain ⟨D,rfl⟩:∃ D:Nat,d = (D:Int):=⟨d.toNat,by omega⟩
   rw [Int.toNat_natCast]
   have m1:max (D:Int) 0 = (D:Int):=by omega
   have m2:min (D:Int) 28 = (D:Int):=by omega
   clear hd
   go_enter Tryz.func10,Tryz.ntmps10
   go_wp2_with (first
    | (go_at_call 25;refine HLN.out.mono ?_;(rintro r w2 ⟨rfl,hl2,hs2,hb2⟩);have HL2:=lH hl2;have HS2:=lH hs2;have HB2:=lH hb2;clear hl2 hs2 hb2))
   go_ret
   exact ⟨by rw [HS2.out];rfl,HFIN.out _ D HL2.out HS2.out HB2.out⟩
theorem pValueC {w:World} {m h g n c d p:Nat} {A:Option Addr} {zs:List Int} (f:Nat) (x:PX w m h g A n c d zs p) (hd:d ≤ 28) (hf:n - p < f) :
  Calls Tryz.prog 21 #[.pointer (some ⟨m,0,none⟩)] w (VaP m h g A n c d zs w (parF zs f .val d p)):=by
 have hx0:=x.alloc (.cells #[.int .i64 0,.int .i64 0,.slice none 0 0,.slice none 0 0,.slice none 0 0] 27)
 have ho0:=(Only.refl g w).alloc (.cells #[.int .i64 0,.int .i64 0,.slice none 0 0,.slice none 0 0,.slice none 0 0] 27)
 have hr0:=RsB.new w
 obtain ⟨W0,hW0⟩:∃ W0,w.alloc (.cells #[.int .i64 0,.int .i64 0,.slice none 0 0,.slice none 0 0,.slice none 0 0] 27) = W0:=⟨_,rfl⟩
 rw [hW0] at hx0 ho0 hr0
 have HVL:=lH ((parC m h g A n c d zs f).2.2 d W0 p (by omega) hx0 hf)
 have HEM:=lH (emptyC hx0)
 have HWB:Hid (w.heap.size ≤ w.heap.size):=lH (Nat.le_refl _)
 have HLT:Hid (m < w.heap.size ∧ h < w.heap.size ∧ g < w.heap.size):=lH ⟨x.lt,x.lx.lt,x.lx.cu.lt⟩
 have k1:=hx0.k1
 have HO0:=lH ho0
 have HR0:=lH hr0
 have HW0:=lH hW0
 obtain ⟨R,hR⟩:∃ R,parF zs f .val d p = R:=⟨_,rfl⟩
 rw [hR] at HVL ⊢
 obtain ⟨E,X,q5⟩:=R
 clear hx0 ho0 hr0 hW0 x hR hd hf
 go_enter Tryz.func21,Tryz.ntmps21
 go_upto_region 1 with fail
 rw [HW0.out]
 go_wp2_with (first
  | (go_at_call 26;refine HEM.out.mono ?_;(rintro r w1 ⟨rfl,rfl⟩))
  | (go_at_call 38;refine HVL.out.mono ?_;(rintro r w5 ⟨d0,d1,d2,d3,d4,hrr,hob,hx5,ho5⟩);(try dsimp only at hrr hob hx5);subst hrr;obtain ⟨k5,n5,A5,m5,e5,A6,m6,e6,A7,m7,e7,rfl,rfl,rfl,rfl,rfl⟩:=hob.shp;have HRF:=lH (HR0.out.only ho5 HLT.out.2.2);obtain ⟨r0,r1,r2,r3,r4,r5⟩:=zero_cells HRF.out;have HF:=lH (RsB.finN (w:=w) HR0.out HRF.out HWB.out hob hx5 (HO0.out.trans ho5) HLT.out);clear hob hx5 ho5))
 refine bodyPost_ret (results_cell_row_tmp rfl _ _ w.heap.size 27 _ (0,0) _ rfl HF.out.row Tryz.underlying27 rfl (by kernel_rfl) _ rfl) rfl ?_
 exact ⟨_,_,_,_,_,rfl,HF.out.ob,HF.out.px,HF.out.on⟩
theorem pAtC {w:World} {m h g n c d p:Nat} {A:Option Addr} {zs:List Int} (x:PX w m h g A n c d zs p) :
  Calls Tryz.prog 15 #[.pointer (some ⟨m,0,none⟩)] w fun r w'=>r = .returned (.int .i64 p) ∧ w = w':=by
 have k0:=x.k0
 have j0:=x.lx.k0
 have HEM:=lH (emptyC x)
 have HPS:=lH (ppsC x)
 clear x
 go_enter Tryz.func15,Tryz.ntmps15
 go_wp2_with (first
  | (go_at_call 26;refine HEM.out.mono ?_;(rintro r w1 ⟨rfl,rfl⟩))
  | (go_at_call 35;refine HPS.out.mono ?_;(rintro r w1 ⟨rfl,rfl⟩)))
 go_ret
 exact ⟨rfl,rfl⟩
end
section
open Go.RowKit
theorem byt_S {W w0:World} {A:Option Addr} {l c:Nat} {b:List Int} {lo:Nat} (hy:Byt W W.heap.size A l c b) (hf:From lo A l) (hl:b.length ≤ 1000000) (h0:w0.heap.size < lo):BytS W (fun y=>(w0.heap.size ≤ y ∧ y ≠ w0.heap.size) ∧ y < W.heap.size) A l c b :=
 ⟨hy.len,⟨hy.cap,by have:=hy.len;omega⟩,hy.rng,fun hn=>by
  obtain ⟨b',o,e,hlt,hc⟩:=hy.cell hn
  have:=hf hn b' o e
  exact ⟨b',o,e,⟨by omega,hlt⟩,hc⟩⟩
set_option maxHeartbeats 8000000 in
theorem rvalueC {m n c d:Nat} {A:Option Addr} {zs:List Int} (f:Nat) (IHa:RItsC m A n c d zs f) (IHd:REnsC m A n c d zs f):RValC m A n c d zs (f + 1):=by
 intro dd w p hdd x hf
 have hx0:=x.alloc (.cells #[.int .i64 0,.int .i64 0,.slice none 0 0,.slice none 0 0,.slice none 0 0] 27)
 have ho0:=(Only.refl m w).alloc (.cells #[.int .i64 0,.int .i64 0,.slice none 0 0,.slice none 0 0,.slice none 0 0] 27)
 have hr0:=RsB.new w
 have hbn:blkP zs p ≤ n:=by have:=(blkP_le zs p x.pz).2;rw [x.len] at this;exact this
 obtain ⟨W0,hW0⟩:∃ W0,w.alloc (.cells #[.int .i64 0,.int .i64 0,.slice none 0 0,.slice none 0 0,.slice none 0 0] 27) = W0:=⟨_,rfl⟩
 rw [hW0] at hx0 ho0 hr0
 have htk:=rtkC hx0
 have hgt:=tokT_gt zs p
 have hln:=tokT_len zs p
 have hv0:=tokT_bd zs p
 have hv:-9223372036854775808 ≤ (tokT zs p).v ∧ (tokT zs p).v ≤ 9223372036854775807:=by omega
 clear hv0
 have HMW:=lH x.lt
 have HO0:=lH ho0
 have HR0:=lH hr0
 have HW0:=lH hW0
 have HNF:=lH hf
 have HPL:=lH x.pl
 have HSM:=lH x.sm
 rw [parF]
 unfold begR
 have hwh:=fun W (hW:RX W m A n c d zs (tokT zs p).q) k a A' l c'=>rwholeC hW k (tokT zs p).v a A' l c' hv
 have hia:=fun dd W hdd hW hf=>IHa dd W (tokT zs p).q hdd hW hf
 have hid:=fun dd W hdd hW hf=>IHd dd W (tokT zs p).q hdd hW hf
 have hwe:=wholeR_e zs (tokT zs p).v (tokT zs p).q
 obtain ⟨WH,hWH⟩:∃ WH,wholeR zs (tokT zs p).v (tokT zs p).q = WH:=⟨_,rfl⟩
 rw [hWH] at hwh hwe ⊢
 obtain ⟨T,hT⟩:∃ T,tokT zs p = T:=⟨_,rfl⟩
 obtain ⟨bp,hbp⟩:∃ bp,blkP zs p = bp:=⟨_,rfl⟩
 rw [hT] at htk hgt hln hv hwh hia hid ⊢
 rw [hbp] at htk hbn ⊢
 obtain ⟨e,k,v,b,q2⟩:=T
 dsimp only at htk hgt hln hv hwh hia hid ⊢
 have HTK:=lH htk
 have HBN:=lH hbn
 have HLN:=lH hln
 have HV:=lH hv
 have HWH:=lH hwh
 have HIA:=lH hia
 have HID:=lH hid
 have HST0:=lH (fun e W (hW:RX W m A n c d zs q2)=>stopC hW bp e HBN.out)
 clear hx0 ho0 hr0 hW0 htk hbn hln hv hwh hia hid x hf IHa IHd hT hbp hWH
 by_cases he:e = 0
 ·subst he
  rw [if_neg (by decide)]
  by_cases k1:k = 1
  ·subst k1
   rw [if_pos rfl]
   clear hgt
   obtain ⟨E,X,q5⟩:=WH
   dsimp only at hwe
   subst hwe
   go_enter Tryz.func53,Tryz.ntmps53
   go_upto_region 1 with fail
   rw [HW0.out]
   go_upto_region 2 with (first
    | (go_at_call 75;refine HTK.out.mono ?_;(rintro r w3 ⟨A3,l3,c3,rfl,hx3,ho3,hy3,hf3⟩);have HX3:=lH hx3;have HO3:=lH ho3;have HY3:=lH hy3;have HF3:=lH hf3;clear hx3 ho3 hy3 hf3))
   have hn4:=Bx.new w3 99 (.int .i64 1) (.int .i64 bp) (.int .i64 v) (.slice A3 l3 c3)
   have hb4:=(Below.refl w3.heap.size w3).alloc (Nat.le_refl _) (.cells #[.int .i64 1,.int .i64 bp,.int .i64 v,.slice A3 l3 c3] 99)
   obtain ⟨w4,hw4⟩:∃ w4,w3.alloc (.cells #[.int .i64 1,.int .i64 bp,.int .i64 v,.slice A3 l3 c3] 99) = w4:=⟨_,rfl⟩
   rw [hw4] at hn4 hb4
   rw [hw4]
   have t0:=hn4.c0
   have t1:=hn4.c1
   have t2:=hn4.c2
   have t3:=hn4.c3
   have HN4:=lH hn4
   have HX4:=lH (HX3.out.low hb4)
   have ho4:=HO3.out.trans (Only.of_below hb4 m)
   have HO4:=lH (HO0.out.trans ho4)
   have HY4:=lH ((HY3.out.below hb4 (Nat.le_refl _)).more hb4.size)
   have HR4:=lH (HR0.out.only ho4 HMW.out)
   have HZ4:=lH (Nat.le_trans (Nat.le_of_lt HR0.out.lt) ho4.size)
   clear hn4 hb4 hw4 ho4
   go_wp2_with (first
    | (go_at_call 77;refine (HWH.out _ HX4.out _ _ _ _ _).mono ?_;(rintro r w5 ⟨d0,d1,d2,d3,d4,hrr,hob,hx5,ho5⟩);(try dsimp only at hrr hob hx5)
       subst hrr
       obtain ⟨k5,n5,A5,m5,e5,A6,m6,e6,A7,m7,e7,rfl,rfl,rfl,rfl,rfl⟩:=hob.shp
       have HRF:=lH (RsB.only HR4.out ho5 HMW.out)
       obtain ⟨r0,r1,r2,r3,r4,r5⟩:=zero_cells HRF.out
       have HF:=lH (RsB.finRN (w:=w) HR4.out HRF.out (Nat.le_refl _) hob hx5 (Only.trans HO4.out ho5) HMW.out)
       clear hob hx5 ho5
       skip))
   refine bodyPost_ret (results_cell_row_tmp rfl _ _ w.heap.size 27 _ (0,0) _ rfl HF.out.row Tryz.underlying27 rfl (by kernel_rfl) _ rfl) rfl ?_
   exact ⟨_,_,_,_,_,rfl,HF.out.ob,HF.out.px,HF.out.on⟩
  rw [if_neg k1]
  have k1b:(k == 1) = false:=beq_eq_false_iff_ne.2 k1
  clear hwe
  by_cases k2:k = 2
  ·subst k2
   rw [if_pos rfl]
   clear hgt k1 k1b
   go_enter Tryz.func53,Tryz.ntmps53
   go_upto_region 1 with fail
   rw [HW0.out]
   go_upto_region 2 with (first
    | (go_at_call 75;refine HTK.out.mono ?_;(rintro r w3 ⟨A3,l3,c3,rfl,hx3,ho3,hy3,hf3⟩);have HX3:=lH hx3;have HO3:=lH ho3;have HY3:=lH hy3;have HF3:=lH hf3;clear hx3 ho3 hy3 hf3))
   have hn4:=Bx.new w3 99 (.int .i64 2) (.int .i64 bp) (.int .i64 v) (.slice A3 l3 c3)
   have hb4:=(Below.refl w3.heap.size w3).alloc (Nat.le_refl _) (.cells #[.int .i64 2,.int .i64 bp,.int .i64 v,.slice A3 l3 c3] 99)
   obtain ⟨w4,hw4⟩:∃ w4,w3.alloc (.cells #[.int .i64 2,.int .i64 bp,.int .i64 v,.slice A3 l3 c3] 99) = w4:=⟨_,rfl⟩
   rw [hw4] at hn4 hb4
   rw [hw4]
   have t0:=hn4.c0
   have t1:=hn4.c1
   have t2:=hn4.c2
   have t3:=hn4.c3
   have HN4:=lH hn4
   have HX4:=lH (HX3.out.low hb4)
   have ho4:=HO3.out.trans (Only.of_below hb4 m)
   have HO4:=lH (HO0.out.trans ho4)
   have HY4:=lH ((HY3.out.below hb4 (Nat.le_refl _)).more hb4.size)
   have HR4:=lH (HR0.out.only ho4 HMW.out)
   have HZ4:=lH (Nat.le_trans (Nat.le_of_lt HR0.out.lt) ho4.size)
   clear hn4 hb4 hw4 ho4
   have HF:=lH (HR4.out.finR (Nat.le_refl _) (ObR.plain (k:=3) (n:=v) (by omega) HV.out (bytS_nil _ _)) HX4.out HO4.out HMW.out)
   obtain ⟨r0,r1,r2,r3,r4,r5⟩:=zero_cells HR4.out
   go_wp2_with fail
   refine bodyPost_ret (results_cell_row_tmp rfl _ _ w.heap.size 27 _ (0,0) _ rfl HF.out.row Tryz.underlying27 rfl (by kernel_rfl) _ rfl) rfl ?_
   exact ⟨_,_,_,_,_,rfl,HF.out.ob,HF.out.px,HF.out.on⟩
  rw [if_neg k2]
  have k2b:(k == 2) = false:=beq_eq_false_iff_ne.2 k2
  by_cases k3:k = 3
  ·subst k3
   rw [if_pos rfl]
   clear hgt k1 k1b k2 k2b
   go_enter Tryz.func53,Tryz.ntmps53
   go_upto_region 1 with fail
   rw [HW0.out]
   go_upto_region 2 with (first
    | (go_at_call 75;refine HTK.out.mono ?_;(rintro r w3 ⟨A3,l3,c3,rfl,hx3,ho3,hy3,hf3⟩);have HX3:=lH hx3;have HO3:=lH ho3;have HY3:=lH hy3;have HF3:=lH hf3;clear hx3 ho3 hy3 hf3))
   have hn4:=Bx.new w3 99 (.int .i64 3) (.int .i64 bp) (.int .i64 v) (.slice A3 l3 c3)
   have hb4:=(Below.refl w3.heap.size w3).alloc (Nat.le_refl _) (.cells #[.int .i64 3,.int .i64 bp,.int .i64 v,.slice A3 l3 c3] 99)
   obtain ⟨w4,hw4⟩:∃ w4,w3.alloc (.cells #[.int .i64 3,.int .i64 bp,.int .i64 v,.slice A3 l3 c3] 99) = w4:=⟨_,rfl⟩
   rw [hw4] at hn4 hb4
   rw [hw4]
   have t0:=hn4.c0
   have t1:=hn4.c1
   have t2:=hn4.c2
   have t3:=hn4.c3
   have HN4:=lH hn4
   have HX4:=lH (HX3.out.low hb4)
   have ho4:=HO3.out.trans (Only.of_below hb4 m)
   have HO4:=lH (HO0.out.trans ho4)
   have HY4:=lH ((HY3.out.below hb4 (Nat.le_refl _)).more hb4.size)
   have HR4:=lH (HR0.out.only ho4 HMW.out)
   have HZ4:=lH (Nat.le_trans (Nat.le_of_lt HR0.out.lt) ho4.size)
   clear hn4 hb4 hw4 ho4
   have hbs:=byt_S (w0:=w) HY4.out HF3.out HLN.out HR0.out.lt
   have HF:=lH (HR4.out.finR (Nat.le_refl _) (ObR.plain (k:=4) (n:=0) (by omega) (by omega) hbs) HX4.out HO4.out HMW.out)
   obtain ⟨r0,r1,r2,r3,r4,r5⟩:=zero_cells HR4.out
   go_wp2_with fail
   refine bodyPost_ret (results_cell_row_tmp rfl _ _ w.heap.size 27 _ (0,0) _ rfl HF.out.row Tryz.underlying27 rfl (by kernel_rfl) _ rfl) rfl ?_
   exact ⟨_,_,_,_,_,rfl,HF.out.ob,HF.out.px,HF.out.on⟩
  rw [if_neg k3]
  have k3b:(k == 3) = false:=beq_eq_false_iff_ne.2 k3
  by_cases k4:k = 4
  ·subst k4
   rw [if_pos rfl]
   clear hgt k1 k1b k2 k2b k3 k3b
   go_enter Tryz.func53,Tryz.ntmps53
   go_upto_region 1 with fail
   rw [HW0.out]
   go_upto_region 2 with (first
    | (go_at_call 75;refine HTK.out.mono ?_;(rintro r w3 ⟨A3,l3,c3,rfl,hx3,ho3,hy3,hf3⟩);have HX3:=lH hx3;have HO3:=lH ho3;have HY3:=lH hy3;have HF3:=lH hf3;clear hx3 ho3 hy3 hf3))
   have hn4:=Bx.new w3 99 (.int .i64 4) (.int .i64 bp) (.int .i64 v) (.slice A3 l3 c3)
   have hb4:=(Below.refl w3.heap.size w3).alloc (Nat.le_refl _) (.cells #[.int .i64 4,.int .i64 bp,.int .i64 v,.slice A3 l3 c3] 99)
   obtain ⟨w4,hw4⟩:∃ w4,w3.alloc (.cells #[.int .i64 4,.int .i64 bp,.int .i64 v,.slice A3 l3 c3] 99) = w4:=⟨_,rfl⟩
   rw [hw4] at hn4 hb4
   rw [hw4]
   have t0:=hn4.c0
   have t1:=hn4.c1
   have t2:=hn4.c2
   have t3:=hn4.c3
   have HN4:=lH hn4
   have HX4:=lH (HX3.out.low hb4)
   have ho4:=HO3.out.trans (Only.of_below hb4 m)
   have HO4:=lH (HO0.out.trans ho4)
   have HY4:=lH ((HY3.out.below hb4 (Nat.le_refl _)).more hb4.size)
   have HR4:=lH (HR0.out.only ho4 HMW.out)
   have HZ4:=lH (Nat.le_trans (Nat.le_of_lt HR0.out.lt) ho4.size)
   clear hn4 hb4 hw4 ho4
   have hbs:=byt_S (w0:=w) HY4.out HF3.out HLN.out HR0.out.lt
   have HF:=lH (HR4.out.finR (Nat.le_refl _) (ObR.plain (k:=5) (n:=0) (by omega) (by omega) hbs) HX4.out HO4.out HMW.out)
   obtain ⟨r0,r1,r2,r3,r4,r5⟩:=zero_cells HR4.out
   go_wp2_with fail
   refine bodyPost_ret (results_cell_row_tmp rfl _ _ w.heap.size 27 _ (0,0) _ rfl HF.out.row Tryz.underlying27 rfl (by kernel_rfl) _ rfl) rfl ?_
   exact ⟨_,_,_,_,_,rfl,HF.out.ob,HF.out.px,HF.out.on⟩
  rw [if_neg k4]
  have k4b:(k == 4) = false:=beq_eq_false_iff_ne.2 k4
  by_cases k9:k = 9
  ·subst k9
   rw [if_pos rfl]
   clear hgt k1 k1b k2 k2b k3 k3b k4 k4b
   obtain ⟨R,hR⟩:∃ R,wordR b bp q2 = R:=⟨_,rfl⟩
   rw [hR]
   have HWR:=lH hR
   clear hR
   go_enter Tryz.func53,Tryz.ntmps53
   go_upto_region 1 with fail
   rw [HW0.out]
   go_upto_region 2 with (first
    | (go_at_call 75;refine HTK.out.mono ?_;(rintro r w3 ⟨A3,l3,c3,rfl,hx3,ho3,hy3,hf3⟩);have HX3:=lH hx3;have HO3:=lH ho3;have HY3:=lH hy3;have HF3:=lH hf3;clear hx3 ho3 hy3 hf3))
   have hn4:=Bx.new w3 99 (.int .i64 9) (.int .i64 bp) (.int .i64 v) (.slice A3 l3 c3)
   have hb4:=(Below.refl w3.heap.size w3).alloc (Nat.le_refl _) (.cells #[.int .i64 9,.int .i64 bp,.int .i64 v,.slice A3 l3 c3] 99)
   obtain ⟨w4,hw4⟩:∃ w4,w3.alloc (.cells #[.int .i64 9,.int .i64 bp,.int .i64 v,.slice A3 l3 c3] 99) = w4:=⟨_,rfl⟩
   rw [hw4] at hn4 hb4
   rw [hw4]
   have t0:=hn4.c0
   have t1:=hn4.c1
   have t2:=hn4.c2
   have t3:=hn4.c3
   have HN4:=lH hn4
   have HX4:=lH (HX3.out.low hb4)
   have ho4:=HO3.out.trans (Only.of_below hb4 m)
   have HO4:=lH (HO0.out.trans ho4)
   have HY4:=lH ((HY3.out.below hb4 (Nat.le_refl _)).more hb4.size)
   have HR4:=lH (HR0.out.only ho4 HMW.out)
   have HZ4:=lH (Nat.le_trans (Nat.le_of_lt HR0.out.lt) ho4.size)
   clear hn4 hb4 hw4 ho4
   have hcv:=conv_str HY4.out _ rfl
   have hrg:=HY4.out.rng
   by_cases h1:b = [116,114,117,101]
   ·subst h1
    obtain rfl:R = ⟨0,.mk 1 1 [] .nil .nil,q2⟩:=by rw [← HWR.out];unfold wordR;rw [if_pos rfl]
    rw [show strOfNums [116,114,117,101] = ⟨#[116,114,117,101]⟩ by rfl] at hcv
    clear hrg
    have HF:=lH (HR4.out.finR (Nat.le_refl _) (ObR.plain (k:=1) (n:=1) (by omega) (by omega) (bytS_nil _ _)) HX4.out HO4.out HMW.out)
    obtain ⟨r0,r1,r2,r3,r4,r5⟩:=zero_cells HR4.out
    go_wp2_with fail
    refine bodyPost_ret (results_cell_row_tmp rfl _ _ w.heap.size 27 _ (0,0) _ rfl HF.out.row Tryz.underlying27 rfl (by kernel_rfl) _ rfl) rfl ?_
    exact ⟨_,_,_,_,_,rfl,HF.out.ob,HF.out.px,HF.out.on⟩
   by_cases h2:b = [102,97,108,115,101]
   ·subst h2
    obtain rfl:R = ⟨0,.mk 1 0 [] .nil .nil,q2⟩:=by rw [← HWR.out];unfold wordR;rw [if_neg h1,if_pos rfl]
    rw [show strOfNums [102,97,108,115,101] = ⟨#[102,97,108,115,101]⟩ by rfl] at hcv
    clear hrg h1
    have HF:=lH (HR4.out.finR (Nat.le_refl _) (ObR.plain (k:=1) (n:=0) (by omega) (by omega) (bytS_nil _ _)) HX4.out HO4.out HMW.out)
    obtain ⟨r0,r1,r2,r3,r4,r5⟩:=zero_cells HR4.out
    go_wp2_with fail
    refine bodyPost_ret (results_cell_row_tmp rfl _ _ w.heap.size 27 _ (0,0) _ rfl HF.out.row Tryz.underlying27 rfl (by kernel_rfl) _ rfl) rfl ?_
    exact ⟨_,_,_,_,_,rfl,HF.out.ob,HF.out.px,HF.out.on⟩
   by_cases h3:b = [110,117,108,108]
   ·subst h3
    obtain rfl:R = ⟨0,nulO,q2⟩:=by rw [← HWR.out];unfold wordR;rw [if_neg h1,if_neg h2,if_pos rfl]
    rw [show strOfNums [110,117,108,108] = ⟨#[110,117,108,108]⟩ by rfl] at hcv
    clear hrg h1 h2
    have HF:=lH (HR4.out.finR (Nat.le_refl _) (ob_nul _ _) HX4.out HO4.out HMW.out)
    obtain ⟨r0,r1,r2,r3,r4,r5⟩:=zero_cells HR4.out
    go_wp2_with fail
    refine bodyPost_ret (results_cell_row_tmp rfl _ _ w.heap.size 27 _ (0,0) _ rfl HF.out.row Tryz.underlying27 rfl (by kernel_rfl) _ rfl) rfl ?_
    exact ⟨_,_,_,_,_,rfl,HF.out.ob,HF.out.px,HF.out.on⟩
   obtain rfl:R = noR 4 bp:=by rw [← HWR.out];unfold wordR;rw [if_neg h1,if_neg h2,if_neg h3]
   have n1:((strOfNums b).toList == ([116,114,117,101]:List UInt8)) = false:=by
    rw [show ([116,114,117,101]:List UInt8) = (⟨#[116,114,117,101]⟩:ByteArray).toList by kernel_rfl]
    exact str_ne (fun e=>h1 (strOf_inj hrg e))
   have n2:((strOfNums b).toList == ([102,97,108,115,101]:List UInt8)) = false:=by
    rw [show ([102,97,108,115,101]:List UInt8) = (⟨#[102,97,108,115,101]⟩:ByteArray).toList by kernel_rfl]
    exact str_ne (fun e=>h2 (strOf_inj hrg e))
   have n3:((strOfNums b).toList == ([110,117,108,108]:List UInt8)) = false:=by
    rw [show ([110,117,108,108]:List UInt8) = (⟨#[110,117,108,108]⟩:ByteArray).toList by kernel_rfl]
    exact str_ne (fun e=>h3 (strOf_inj hrg e))
   obtain ⟨s,hs⟩:∃ s,strOfNums b = s:=⟨_,rfl⟩
   rw [hs] at n1 n2 n3 hcv
   have HST:=lH (HST0.out 4)
   clear hrg h1 h2 h3 hs
   go_wp2_with (first
    | (go_at_call 76;refine (HST.out _ HX4.out).mono ?_;(rintro r w5 ⟨d0,d1,d2,d3,d4,hrr,hob,hx5,ho5⟩);(try dsimp only [noR] at hrr hob hx5)
       subst hrr
       obtain ⟨k5,n5,A5,m5,e5,A6,m6,e6,A7,m7,e7,rfl,rfl,rfl,rfl,rfl⟩:=hob.shp
       have HRF:=lH (RsB.only HR4.out ho5 HMW.out)
       obtain ⟨r0,r1,r2,r3,r4,r5⟩:=zero_cells HRF.out
       have HF:=lH (RsB.finRN (w:=w) HR4.out HRF.out (Nat.le_refl _) hob hx5 (Only.trans HO4.out ho5) HMW.out)
       clear hob hx5 ho5
       skip))
   refine bodyPost_ret (results_cell_row_tmp rfl _ _ w.heap.size 27 _ (0,0) _ rfl HF.out.row Tryz.underlying27 rfl (by kernel_rfl) _ rfl) rfl ?_
   exact ⟨_,_,_,_,_,rfl,HF.out.ob,HF.out.px,HF.out.on⟩
  rw [if_neg k9]
  have k9b:(k == 9) = false:=beq_eq_false_iff_ne.2 k9
  by_cases k5:k = 5
  ·subst k5
   rw [if_pos rfl]
   clear k1 k1b k2 k2b k3 k3b k4 k4b k9 k9b
   cases dd with
   | zero =>
    rw [if_pos rfl]
    have HST:=lH (HST0.out 6)
    clear hgt
    go_enter Tryz.func53,Tryz.ntmps53
    go_upto_region 1 with fail
    rw [HW0.out]
    go_upto_region 2 with (first
     | (go_at_call 75;refine HTK.out.mono ?_;(rintro r w3 ⟨A3,l3,c3,rfl,hx3,ho3,hy3,hf3⟩);have HX3:=lH hx3;have HO3:=lH ho3;have HY3:=lH hy3;have HF3:=lH hf3;clear hx3 ho3 hy3 hf3))
    have hn4:=Bx.new w3 99 (.int .i64 5) (.int .i64 bp) (.int .i64 v) (.slice A3 l3 c3)
    have hb4:=(Below.refl w3.heap.size w3).alloc (Nat.le_refl _) (.cells #[.int .i64 5,.int .i64 bp,.int .i64 v,.slice A3 l3 c3] 99)
    obtain ⟨w4,hw4⟩:∃ w4,w3.alloc (.cells #[.int .i64 5,.int .i64 bp,.int .i64 v,.slice A3 l3 c3] 99) = w4:=⟨_,rfl⟩
    rw [hw4] at hn4 hb4
    rw [hw4]
    have t0:=hn4.c0
    have t1:=hn4.c1
    have t2:=hn4.c2
    have t3:=hn4.c3
    have HN4:=lH hn4
    have HX4:=lH (HX3.out.low hb4)
    have ho4:=HO3.out.trans (Only.of_below hb4 m)
    have HO4:=lH (HO0.out.trans ho4)
    have HY4:=lH ((HY3.out.below hb4 (Nat.le_refl _)).more hb4.size)
    have HR4:=lH (HR0.out.only ho4 HMW.out)
    have HZ4:=lH (Nat.le_trans (Nat.le_of_lt HR0.out.lt) ho4.size)
    clear hn4 hb4 hw4 ho4
    go_wp2_with (first
     | (go_at_call 76;refine (HST.out _ HX4.out).mono ?_;(rintro r w5 ⟨d0,d1,d2,d3,d4,hrr,hob,hx5,ho5⟩);(try dsimp only [noR] at hrr hob hx5)
        subst hrr
        obtain ⟨k5,n5,A5,m5,e5,A6,m6,e6,A7,m7,e7,rfl,rfl,rfl,rfl,rfl⟩:=hob.shp
        have HRF:=lH (RsB.only HR4.out ho5 HMW.out)
        obtain ⟨r0,r1,r2,r3,r4,r5⟩:=zero_cells HRF.out
        have HF:=lH (RsB.finRN (w:=w) HR4.out HRF.out (Nat.le_refl _) hob hx5 (Only.trans HO4.out ho5) HMW.out)
        clear hob hx5 ho5
        skip))
    refine bodyPost_ret (results_cell_row_tmp rfl _ _ w.heap.size 27 _ (0,0) _ rfl HF.out.row Tryz.underlying27 rfl (by kernel_rfl) _ rfl) rfl ?_
    exact ⟨_,_,_,_,_,rfl,HF.out.ob,HF.out.px,HF.out.on⟩
   | succ dd =>
    rw [if_neg (Nat.succ_ne_zero dd),Nat.add_sub_cancel]
    have HI:=lH (fun W hW=>HIA.out dd W (by omega) hW (by have:=hgt rfl (by decide);have:=hW.pl;have:=HNF.out;omega))
    obtain ⟨R,hR⟩:∃ R,parF zs f (.its .nil) dd q2 = R:=⟨_,rfl⟩
    rw [hR] at HI ⊢
    obtain ⟨E,X,q5⟩:=R
    obtain ⟨D,hD⟩:∃ D,dd + 1 = D:=⟨_,rfl⟩
    have e1:(D:Int) - 1 = (dd:Int):=by omega
    have e2:decide ((D:Int) < 1) = false:=decide_eq_false (by omega)
    have e3:IntKind.i64.wrap (dd:Int) = (dd:Int):=IntWalk.i64_in _ (by omega)
    rw [hD]
    clear hgt hR hD hdd
    go_enter Tryz.func53,Tryz.ntmps53
    go_upto_region 1 with fail
    rw [HW0.out]
    go_upto_region 2 with (first
     | (go_at_call 75;refine HTK.out.mono ?_;(rintro r w3 ⟨A3,l3,c3,rfl,hx3,ho3,hy3,hf3⟩);have HX3:=lH hx3;have HO3:=lH ho3;have HY3:=lH hy3;have HF3:=lH hf3;clear hx3 ho3 hy3 hf3))
    have hn4:=Bx.new w3 99 (.int .i64 5) (.int .i64 bp) (.int .i64 v) (.slice A3 l3 c3)
    have hb4:=(Below.refl w3.heap.size w3).alloc (Nat.le_refl _) (.cells #[.int .i64 5,.int .i64 bp,.int .i64 v,.slice A3 l3 c3] 99)
    obtain ⟨w4,hw4⟩:∃ w4,w3.alloc (.cells #[.int .i64 5,.int .i64 bp,.int .i64 v,.slice A3 l3 c3] 99) = w4:=⟨_,rfl⟩
    rw [hw4] at hn4 hb4
    rw [hw4]
    have t0:=hn4.c0
    have t1:=hn4.c1
    have t2:=hn4.c2
    have t3:=hn4.c3
    have HN4:=lH hn4
    have HX4:=lH (HX3.out.low hb4)
    have ho4:=HO3.out.trans (Only.of_below hb4 m)
    have HO4:=lH (HO0.out.trans ho4)
    have HY4:=lH ((HY3.out.below hb4 (Nat.le_refl _)).more hb4.size)
    have HR4:=lH (HR0.out.only ho4 HMW.out)
    have HZ4:=lH (Nat.le_trans (Nat.le_of_lt HR0.out.lt) ho4.size)
    clear hn4 hb4 hw4 ho4
    go_wp2_with (first
     | (go_at_call 78;refine (HI.out _ HX4.out).mono ?_;(rintro r w5 ⟨d0,d1,d2,d3,d4,hrr,hob,hx5,ho5⟩);(try dsimp only at hrr hob hx5)
        subst hrr
        obtain ⟨k5,n5,A5,m5,e5,A6,m6,e6,A7,m7,e7,rfl,rfl,rfl,rfl,rfl⟩:=hob.shp
        have HRF:=lH (RsB.only HR4.out ho5 HMW.out)
        obtain ⟨r0,r1,r2,r3,r4,r5⟩:=zero_cells HRF.out
        have HF:=lH (RsB.finRN (w:=w) HR4.out HRF.out (Nat.le_refl _) hob hx5 (Only.trans HO4.out ho5) HMW.out)
        clear hob hx5 ho5
        skip))
    refine bodyPost_ret (results_cell_row_tmp rfl _ _ w.heap.size 27 _ (0,0) _ rfl HF.out.row Tryz.underlying27 rfl (by kernel_rfl) _ rfl) rfl ?_
    exact ⟨_,_,_,_,_,rfl,HF.out.ob,HF.out.px,HF.out.on⟩
  rw [if_neg k5]
  have k5b:(k == 5) = false:=beq_eq_false_iff_ne.2 k5
  by_cases k7:k = 7
  ·subst k7
   rw [if_pos rfl]
   clear k1 k1b k2 k2b k3 k3b k4 k4b k9 k9b k5 k5b
   cases dd with
   | zero =>
    rw [if_pos rfl]
    have HST:=lH (HST0.out 6)
    clear hgt
    go_enter Tryz.func53,Tryz.ntmps53
    go_upto_region 1 with fail
    rw [HW0.out]
    go_upto_region 2 with (first
     | (go_at_call 75;refine HTK.out.mono ?_;(rintro r w3 ⟨A3,l3,c3,rfl,hx3,ho3,hy3,hf3⟩);have HX3:=lH hx3;have HO3:=lH ho3;have HY3:=lH hy3;have HF3:=lH hf3;clear hx3 ho3 hy3 hf3))
    have hn4:=Bx.new w3 99 (.int .i64 7) (.int .i64 bp) (.int .i64 v) (.slice A3 l3 c3)
    have hb4:=(Below.refl w3.heap.size w3).alloc (Nat.le_refl _) (.cells #[.int .i64 7,.int .i64 bp,.int .i64 v,.slice A3 l3 c3] 99)
    obtain ⟨w4,hw4⟩:∃ w4,w3.alloc (.cells #[.int .i64 7,.int .i64 bp,.int .i64 v,.slice A3 l3 c3] 99) = w4:=⟨_,rfl⟩
    rw [hw4] at hn4 hb4
    rw [hw4]
    have t0:=hn4.c0
    have t1:=hn4.c1
    have t2:=hn4.c2
    have t3:=hn4.c3
    have HN4:=lH hn4
    have HX4:=lH (HX3.out.low hb4)
    have ho4:=HO3.out.trans (Only.of_below hb4 m)
    have HO4:=lH (HO0.out.trans ho4)
    have HY4:=lH ((HY3.out.below hb4 (Nat.le_refl _)).more hb4.size)
    have HR4:=lH (HR0.out.only ho4 HMW.out)
    have HZ4:=lH (Nat.le_trans (Nat.le_of_lt HR0.out.lt) ho4.size)
    clear hn4 hb4 hw4 ho4
    go_wp2_with (first
     | (go_at_call 76;refine (HST.out _ HX4.out).mono ?_;(rintro r w5 ⟨d0,d1,d2,d3,d4,hrr,hob,hx5,ho5⟩);(try dsimp only [noR] at hrr hob hx5)
        subst hrr
        obtain ⟨k5,n5,A5,m5,e5,A6,m6,e6,A7,m7,e7,rfl,rfl,rfl,rfl,rfl⟩:=hob.shp
        have HRF:=lH (RsB.only HR4.out ho5 HMW.out)
        obtain ⟨r0,r1,r2,r3,r4,r5⟩:=zero_cells HRF.out
        have HF:=lH (RsB.finRN (w:=w) HR4.out HRF.out (Nat.le_refl _) hob hx5 (Only.trans HO4.out ho5) HMW.out)
        clear hob hx5 ho5
        skip))
    refine bodyPost_ret (results_cell_row_tmp rfl _ _ w.heap.size 27 _ (0,0) _ rfl HF.out.row Tryz.underlying27 rfl (by kernel_rfl) _ rfl) rfl ?_
    exact ⟨_,_,_,_,_,rfl,HF.out.ob,HF.out.px,HF.out.on⟩
   | succ dd =>
    rw [if_neg (Nat.succ_ne_zero dd),Nat.add_sub_cancel]
    have HI:=lH (fun W hW=>HID.out dd W (by omega) hW (by have:=hgt rfl (by decide);have:=hW.pl;have:=HNF.out;omega))
    obtain ⟨R,hR⟩:∃ R,parF zs f (.ens .nil) dd q2 = R:=⟨_,rfl⟩
    rw [hR] at HI ⊢
    obtain ⟨E,X,q5⟩:=R
    obtain ⟨D,hD⟩:∃ D,dd + 1 = D:=⟨_,rfl⟩
    have e1:(D:Int) - 1 = (dd:Int):=by omega
    have e2:decide ((D:Int) < 1) = false:=decide_eq_false (by omega)
    have e3:IntKind.i64.wrap (dd:Int) = (dd:Int):=IntWalk.i64_in _ (by omega)
    rw [hD]
    clear hgt hR hD hdd
    go_enter Tryz.func53,Tryz.ntmps53
    go_upto_region 1 with fail
    rw [HW0.out]
    go_upto_region 2 with (first
     | (go_at_call 75;refine HTK.out.mono ?_;(rintro r w3 ⟨A3,l3,c3,rfl,hx3,ho3,hy3,hf3⟩);have HX3:=lH hx3;have HO3:=lH ho3;have HY3:=lH hy3;have HF3:=lH hf3;clear hx3 ho3 hy3 hf3))
    have hn4:=Bx.new w3 99 (.int .i64 7) (.int .i64 bp) (.int .i64 v) (.slice A3 l3 c3)
    have hb4:=(Below.refl w3.heap.size w3).alloc (Nat.le_refl _) (.cells #[.int .i64 7,.int .i64 bp,.int .i64 v,.slice A3 l3 c3] 99)
    obtain ⟨w4,hw4⟩:∃ w4,w3.alloc (.cells #[.int .i64 7,.int .i64 bp,.int .i64 v,.slice A3 l3 c3] 99) = w4:=⟨_,rfl⟩
    rw [hw4] at hn4 hb4
    rw [hw4]
    have t0:=hn4.c0
    have t1:=hn4.c1
    have t2:=hn4.c2
    have t3:=hn4.c3
    have HN4:=lH hn4
    have HX4:=lH (HX3.out.low hb4)
    have ho4:=HO3.out.trans (Only.of_below hb4 m)
    have HO4:=lH (HO0.out.trans ho4)
    have HY4:=lH ((HY3.out.below hb4 (Nat.le_refl _)).more hb4.size)
    have HR4:=lH (HR0.out.only ho4 HMW.out)
    have HZ4:=lH (Nat.le_trans (Nat.le_of_lt HR0.out.lt) ho4.size)
    clear hn4 hb4 hw4 ho4
    go_wp2_with (first
     | (go_at_call 79;refine (HI.out _ HX4.out).mono ?_;(rintro r w5 ⟨d0,d1,d2,d3,d4,hrr,hob,hx5,ho5⟩);(try dsimp only at hrr hob hx5)
        subst hrr
        obtain ⟨k5,n5,A5,m5,e5,A6,m6,e6,A7,m7,e7,rfl,rfl,rfl,rfl,rfl⟩:=hob.shp
        have HRF:=lH (RsB.only HR4.out ho5 HMW.out)
        obtain ⟨r0,r1,r2,r3,r4,r5⟩:=zero_cells HRF.out
        have HF:=lH (RsB.finRN (w:=w) HR4.out HRF.out (Nat.le_refl _) hob hx5 (Only.trans HO4.out ho5) HMW.out)
        clear hob hx5 ho5
        skip))
    refine bodyPost_ret (results_cell_row_tmp rfl _ _ w.heap.size 27 _ (0,0) _ rfl HF.out.row Tryz.underlying27 rfl (by kernel_rfl) _ rfl) rfl ?_
    exact ⟨_,_,_,_,_,rfl,HF.out.ob,HF.out.px,HF.out.on⟩
  rw [if_neg k7]
  have k7b:(k == 7) = false:=beq_eq_false_iff_ne.2 k7
  clear hgt
  by_cases k0:k = 0
  ·subst k0
   rw [if_pos rfl]
   have HST:=lH (HST0.out 2)
   clear k1 k1b k2 k2b k3 k3b k4 k4b k9 k9b k5 k5b k7 k7b
   go_enter Tryz.func53,Tryz.ntmps53
   go_upto_region 1 with fail
   rw [HW0.out]
   go_upto_region 2 with (first
    | (go_at_call 75;refine HTK.out.mono ?_;(rintro r w3 ⟨A3,l3,c3,rfl,hx3,ho3,hy3,hf3⟩);have HX3:=lH hx3;have HO3:=lH ho3;have HY3:=lH hy3;have HF3:=lH hf3;clear hx3 ho3 hy3 hf3))
   have hn4:=Bx.new w3 99 (.int .i64 0) (.int .i64 bp) (.int .i64 v) (.slice A3 l3 c3)
   have hb4:=(Below.refl w3.heap.size w3).alloc (Nat.le_refl _) (.cells #[.int .i64 0,.int .i64 bp,.int .i64 v,.slice A3 l3 c3] 99)
   obtain ⟨w4,hw4⟩:∃ w4,w3.alloc (.cells #[.int .i64 0,.int .i64 bp,.int .i64 v,.slice A3 l3 c3] 99) = w4:=⟨_,rfl⟩
   rw [hw4] at hn4 hb4
   rw [hw4]
   have t0:=hn4.c0
   have t1:=hn4.c1
   have t2:=hn4.c2
   have t3:=hn4.c3
   have HN4:=lH hn4
   have HX4:=lH (HX3.out.low hb4)
   have ho4:=HO3.out.trans (Only.of_below hb4 m)
   have HO4:=lH (HO0.out.trans ho4)
   have HY4:=lH ((HY3.out.below hb4 (Nat.le_refl _)).more hb4.size)
   have HR4:=lH (HR0.out.only ho4 HMW.out)
   have HZ4:=lH (Nat.le_trans (Nat.le_of_lt HR0.out.lt) ho4.size)
   clear hn4 hb4 hw4 ho4
   go_wp2_with (first
    | (go_at_call 76;refine (HST.out _ HX4.out).mono ?_;(rintro r w5 ⟨d0,d1,d2,d3,d4,hrr,hob,hx5,ho5⟩);(try dsimp only [noR] at hrr hob hx5)
       subst hrr
       obtain ⟨k5,n5,A5,m5,e5,A6,m6,e6,A7,m7,e7,rfl,rfl,rfl,rfl,rfl⟩:=hob.shp
       have HRF:=lH (RsB.only HR4.out ho5 HMW.out)
       obtain ⟨r0,r1,r2,r3,r4,r5⟩:=zero_cells HRF.out
       have HF:=lH (RsB.finRN (w:=w) HR4.out HRF.out (Nat.le_refl _) hob hx5 (Only.trans HO4.out ho5) HMW.out)
       clear hob hx5 ho5
       skip))
   refine bodyPost_ret (results_cell_row_tmp rfl _ _ w.heap.size 27 _ (0,0) _ rfl HF.out.row Tryz.underlying27 rfl (by kernel_rfl) _ rfl) rfl ?_
   exact ⟨_,_,_,_,_,rfl,HF.out.ob,HF.out.px,HF.out.on⟩
  ·rw [if_neg k0]
   have k0b:(k == 0) = false:=beq_eq_false_iff_ne.2 k0
   have HST:=lH (HST0.out 4)
   clear k1 k2 k3 k4 k9 k5 k7 k0
   go_enter Tryz.func53,Tryz.ntmps53
   go_upto_region 1 with fail
   rw [HW0.out]
   go_upto_region 2 with (first
    | (go_at_call 75;refine HTK.out.mono ?_;(rintro r w3 ⟨A3,l3,c3,rfl,hx3,ho3,hy3,hf3⟩);have HX3:=lH hx3;have HO3:=lH ho3;have HY3:=lH hy3;have HF3:=lH hf3;clear hx3 ho3 hy3 hf3))
   have hn4:=Bx.new w3 99 (.int .i64 k) (.int .i64 bp) (.int .i64 v) (.slice A3 l3 c3)
   have hb4:=(Below.refl w3.heap.size w3).alloc (Nat.le_refl _) (.cells #[.int .i64 k,.int .i64 bp,.int .i64 v,.slice A3 l3 c3] 99)
   obtain ⟨w4,hw4⟩:∃ w4,w3.alloc (.cells #[.int .i64 k,.int .i64 bp,.int .i64 v,.slice A3 l3 c3] 99) = w4:=⟨_,rfl⟩
   rw [hw4] at hn4 hb4
   rw [hw4]
   have t0:=hn4.c0
   have t1:=hn4.c1
   have t2:=hn4.c2
   have t3:=hn4.c3
   have HN4:=lH hn4
   have HX4:=lH (HX3.out.low hb4)
   have ho4:=HO3.out.trans (Only.of_below hb4 m)
   have HO4:=lH (HO0.out.trans ho4)
   have HY4:=lH ((HY3.out.below hb4 (Nat.le_refl _)).more hb4.size)
   have HR4:=lH (HR0.out.only ho4 HMW.out)
   have HZ4:=lH (Nat.le_trans (Nat.le_of_lt HR0.out.lt) ho4.size)
   clear hn4 hb4 hw4 ho4
   go_wp2_with (first
    | (go_at_call 76;refine (HST.out _ HX4.out).mono ?_;(rintro r w5 ⟨d0,d1,d2,d3,d4,hrr,hob,hx5,ho5⟩);(try dsimp only [noR] at hrr hob hx5)
       subst hrr
       obtain ⟨k5,n5,A5,m5,e5,A6,m6,e6,A7,m7,e7,rfl,rfl,rfl,rfl,rfl⟩:=hob.shp
       have HRF:=lH (RsB.only HR4.out ho5 HMW.out)
       obtain ⟨r0,r1,r2,r3,r4,r5⟩:=zero_cells HRF.out
       have HF:=lH (RsB.finRN (w:=w) HR4.out HRF.out (Nat.le_refl _) hob hx5 (Only.trans HO4.out ho5) HMW.out)
       clear hob hx5 ho5
       skip))
   refine bodyPost_ret (results_cell_row_tmp rfl _ _ w.heap.size 27 _ (0,0) _ rfl HF.out.row Tryz.underlying27 rfl (by kernel_rfl) _ rfl) rfl ?_
   exact ⟨_,_,_,_,_,rfl,HF.out.ob,HF.out.px,HF.out.on⟩
 ·rw [if_pos he]
  have heb:(e == 0) = false:=beq_eq_false_iff_ne.2 he
  clear hwe hgt he
  go_enter Tryz.func53,Tryz.ntmps53
  go_upto_region 1 with fail
  rw [HW0.out]
  go_upto_region 2 with (first
   | (go_at_call 75;refine HTK.out.mono ?_;(rintro r w3 ⟨A3,l3,c3,rfl,hx3,ho3,hy3,hf3⟩);have HX3:=lH hx3;have HO3:=lH ho3;have HY3:=lH hy3;have HF3:=lH hf3;clear hx3 ho3 hy3 hf3))
  have hn4:=Bx.new w3 99 (.int .i64 k) (.int .i64 bp) (.int .i64 v) (.slice A3 l3 c3)
  have hb4:=(Below.refl w3.heap.size w3).alloc (Nat.le_refl _) (.cells #[.int .i64 k,.int .i64 bp,.int .i64 v,.slice A3 l3 c3] 99)
  obtain ⟨w4,hw4⟩:∃ w4,w3.alloc (.cells #[.int .i64 k,.int .i64 bp,.int .i64 v,.slice A3 l3 c3] 99) = w4:=⟨_,rfl⟩
  rw [hw4] at hn4 hb4
  rw [hw4]
  have t0:=hn4.c0
  have t1:=hn4.c1
  have t2:=hn4.c2
  have t3:=hn4.c3
  have HN4:=lH hn4
  have HX4:=lH (HX3.out.low hb4)
  have ho4:=HO3.out.trans (Only.of_below hb4 m)
  have HO4:=lH (HO0.out.trans ho4)
  have HY4:=lH ((HY3.out.below hb4 (Nat.le_refl _)).more hb4.size)
  have HR4:=lH (HR0.out.only ho4 HMW.out)
  have HZ4:=lH (Nat.le_trans (Nat.le_of_lt HR0.out.lt) ho4.size)
  clear hn4 hb4 hw4 ho4
  have HF:=lH (HR4.out.finR (Nat.le_refl _) (ob_nul _ _) HX4.out HO4.out HMW.out)
  obtain ⟨r0,r1,r2,r3,r4,r5⟩:=zero_cells HR4.out
  go_wp2_with fail
  refine bodyPost_ret (results_cell_row_tmp rfl _ _ w.heap.size 27 _ (0,0) _ rfl HF.out.row Tryz.underlying27 rfl (by kernel_rfl) _ rfl) rfl ?_
  exact ⟨_,_,_,_,_,rfl,HF.out.ob,HF.out.px,HF.out.on⟩
theorem rparC (m n c d:Nat) (A:Option Addr) (zs:List Int):∀ f,RValC m A n c d zs f ∧ RItsC m A n c d zs f ∧ REnsC m A n c d zs f:=by
 intro f
 induction f using Nat.strongRecOn with
 | _ f ih =>
  have hv:RValC m A n c d zs f:=by
   cases f with
   | zero=>intro dd w p _ _ h;exact absurd h (Nat.not_lt_zero _)
   | succ f=>exact rvalueC f (ih f (Nat.lt_succ_self f)).2.1 (ih f (Nat.lt_succ_self f)).2.2
  refine ⟨hv,rarrayC f (fun g hg=>?_),rdictC f (fun g hg=>(ih g hg).1)⟩
  rcases Nat.lt_or_ge g f with h | h
  ·exact (ih g h).1
  ·obtain rfl:g = f:=by omega
   exact hv
theorem rnewC {w:World} {n c:Nat} {A:Option Addr} {zs:List Int} (d:Int) (hy:Byt w w.heap.size A n c zs) (hn:n ≤ 900000) (hd:-9223372036854775808 ≤ d ∧ d ≤ 9223372036854775807) :
  Calls Tryz.prog 12 #[.slice A n c,.int .i64 d] w fun r w'=>r = .returned (.pointer (some ⟨w.heap.size,0,none⟩)) ∧ RX w' w.heap.size A n c (dpZ d) zs 0 ∧ w'.heap.size = w.heap.size + 1 ∧ Below w.heap.size w w':=by
 have HB:=lH hy
 have HNN:=lH hn
 have fin:∀ (D:Nat),RX (w.alloc (.cells #[.slice A n c,.int .i64 0,.int .i64 (D:Int),.bool false] 48)) w.heap.size A n c D zs 0 ∧ (w.alloc (.cells #[.slice A n c,.int .i64 0,.int .i64 (D:Int),.bool false] 48)).heap.size = w.heap.size + 1 ∧ Below w.heap.size w (w.alloc (.cells #[.slice A n c,.int .i64 0,.int .i64 (D:Int),.bool false] 48)):=by
  intro D
  have h1:=(Below.refl w.heap.size w).alloc (Nat.le_refl _) (.cells #[.slice A n c,.int .i64 0,.int .i64 (D:Int),.bool false] 48)
  have h2:=heap_alloc_new w (.cells #[.slice A n c,.int .i64 0,.int .i64 (D:Int),.bool false] 48)
  exact ⟨⟨⟨h2⟩,hy.below h1 (Nat.le_refl _),by omega,hn⟩,by simp,h1⟩
 have HFIN:=lH fin
 clear hy hn fin
 unfold dpZ
 by_cases h1:d < 0
 ·rw [if_pos h1]
  have m1:max d 0 = 0:=by omega
  have m2:min (0:Int) 28 = 0:=by omega
  clear hd
  go_enter Tryz.func12,Tryz.ntmps12
  go_wp2_with fail
  go_ret
  exact ⟨rfl,HFIN.out 0⟩
 ·rw [if_neg h1]
  by_cases h2:28 < d
  ·rw [if_pos h2]
   have m1:max d 0 = d:=by omega
   have m2:min d 28 = 28:=by omega
   clear hd
   go_enter Tryz.func12,Tryz.ntmps12
   go_wp2_with fail
   go_ret
   exact ⟨rfl,HFIN.out 28⟩
  ·rw [if_neg h2]
   obtain ⟨D,rfl⟩:∃ D:Nat,d = (D:Int):=⟨d.toNat,by omega⟩
   rw [Int.toNat_natCast]
   have m1:max (D:Int) 0 = (D:Int):=by omega
   have m2:min (D:Int) 28 = (D:Int):=by omega
   clear hd
   go_enter Tryz.func12,Tryz.ntmps12
   go_wp2_with fail
   go_ret
   exact ⟨rfl,HFIN.out D⟩
theorem rValueC {w:World} {m n c d p:Nat} {A:Option Addr} {zs:List Int} (f:Nat) (x:RX w m A n c d zs p) (hd:d ≤ 28) (hf:n - p < f) :
  Calls Tryz.prog 32 #[.pointer (some ⟨m,0,none⟩)] w (RvP m A n c d zs w (parF zs f .val d p)):=by
 have hx0:=x.alloc (.cells #[.int .i64 0,.int .i64 0,.slice none 0 0,.slice none 0 0,.slice none 0 0] 27)
 have ho0:=(Only.refl m w).alloc (.cells #[.int .i64 0,.int .i64 0,.slice none 0 0,.slice none 0 0,.slice none 0 0] 27)
 have hr0:=RsB.new w
 obtain ⟨W0,hW0⟩:∃ W0,w.alloc (.cells #[.int .i64 0,.int .i64 0,.slice none 0 0,.slice none 0 0,.slice none 0 0] 27) = W0:=⟨_,rfl⟩
 rw [hW0] at hx0 ho0 hr0
 have HVL:=lH ((rparC m n c d A zs f).1 d W0 p (by omega) hx0 hf)
 have HMW:=lH x.lt
 have c2:=hx0.c2
 have HO4:=lH ho0
 have HR4:=lH hr0
 have HW0:=lH hW0
 obtain ⟨R,hR⟩:∃ R,parF zs f .val d p = R:=⟨_,rfl⟩
 rw [hR] at HVL ⊢
 obtain ⟨E,X,q5⟩:=R
 clear hx0 ho0 hr0 hW0 x hR hd hf
 go_enter Tryz.func32,Tryz.ntmps32
 go_upto_region 1 with fail
 rw [HW0.out]
 go_wp2_with (first
  | (go_at_call 53;refine HVL.out.mono ?_;(rintro r w5 ⟨d0,d1,d2,d3,d4,hrr,hob,hx5,ho5⟩);(try dsimp only at hrr hob hx5)
     subst hrr
     obtain ⟨k5,n5,A5,m5,e5,A6,m6,e6,A7,m7,e7,rfl,rfl,rfl,rfl,rfl⟩:=hob.shp
     have HRF:=lH (RsB.only HR4.out ho5 HMW.out)
     obtain ⟨r0,r1,r2,r3,r4,r5⟩:=zero_cells HRF.out
     have HF:=lH (RsB.finRN (w:=w) HR4.out HRF.out (Nat.le_refl _) hob hx5 (Only.trans HO4.out ho5) HMW.out)
     clear hob hx5 ho5
     skip))
 refine bodyPost_ret (results_cell_row_tmp rfl _ _ w.heap.size 27 _ (0,0) _ rfl HF.out.row Tryz.underlying27 rfl (by kernel_rfl) _ rfl) rfl ?_
 exact ⟨_,_,_,_,_,rfl,HF.out.ob,HF.out.px,HF.out.on⟩
end
section
open Go.RowKit
def allV (zs:List Int) (V:Rt):Rt :=
 if V.e ≠ 0 then noR V.e 0
 else if blkP zs V.q < zs.length then noR 3 0 else ⟨0,V.x,0⟩
def allR (zs:List Int) (d f:Nat):Rt:=allV zs (parF zs f .val d 0)
def AlP (w:World) (R:Rt) (r:Ending) (w':World):Prop :=
 ∃ d0 d1 d2 d3 d4,r = .returned (.tuple #[.agg #[d0,d1,d2,d3,d4],.int .i64 R.e]) ∧ ObR w' (nwT w w') R.x d0 d1 d2 d3 d4 ∧ Below w.heap.size w w'
structure FinA (w W:World) (b:Nat) (x:Ob) (d0 d1 d2 d3 d4:Value):Prop where
 row:(((((W.setCell ⟨b,0,none⟩ d0).setCell ⟨b,1,none⟩ d1).setCell ⟨b,2,none⟩ d2).setCell ⟨b,3,none⟩ d3).setCell ⟨b,4,none⟩ d4).heap[b]? = some (.cells #[d0,d1,d2,d3,d4] 27 (0,0))
 ob:ObR (((((W.setCell ⟨b,0,none⟩ d0).setCell ⟨b,1,none⟩ d1).setCell ⟨b,2,none⟩ d2).setCell ⟨b,3,none⟩ d3).setCell ⟨b,4,none⟩ d4) (nwT w (((((W.setCell ⟨b,0,none⟩ d0).setCell ⟨b,1,none⟩ d1).setCell ⟨b,2,none⟩ d2).setCell ⟨b,3,none⟩ d3).setCell ⟨b,4,none⟩ d4)) x d0 d1 d2 d3 d4
 bl:Below w.heap.size w (((((W.setCell ⟨b,0,none⟩ d0).setCell ⟨b,1,none⟩ d1).setCell ⟨b,2,none⟩ d2).setCell ⟨b,3,none⟩ d3).setCell ⟨b,4,none⟩ d4)
theorem RsB.finA {w W:World} {b lo:Nat} {x:Ob} {d0 d1 d2 d3 d4:Value} (r:RsB b W) (hwb:w.heap.size ≤ b) (hlo:b < lo) (hx:ObR W (fun y=>lo ≤ y ∧ y < W.heap.size) x d0 d1 d2 d3 d4) (hb:Below w.heap.size w W):FinA w W b x d0 d1 d2 d3 d4 :=
 ⟨set5_row r,ObR.keep (fun y hy=>heap_set5 (by omega)) (fun y hy=>⟨by omega,by rw [size_set5];exact hy.2⟩) x hx,below_set5 hb hwb⟩
set_option maxHeartbeats 2000000 in
theorem pAllC (A:Option Addr) (n c:Nat) (d:Int) (zs:List Int) (w:World) (f:Nat) (hy:Byt w w.heap.size A n c zs) (hn:n ≤ 900000) (hd:-9223372036854775808 ≤ d ∧ d ≤ 9223372036854775807) (hf:n < f) :
  Calls Tryz.prog 9 #[.slice A n c,.int .i64 d] w (AlP w (allR zs (dpZ d) f)):=by
 have hb0:=(Below.refl w.heap.size w).alloc (Nat.le_refl _) (.cells #[.int .i64 0,.int .i64 0,.slice none 0 0,.slice none 0 0,.slice none 0 0] 27)
 have hr0:=RsB.new w
 obtain ⟨W0,hW0⟩:∃ W0,w.alloc (.cells #[.int .i64 0,.int .i64 0,.slice none 0 0,.slice none 0 0,.slice none 0 0] 27) = W0:=⟨_,rfl⟩
 rw [hW0] at hb0 hr0
 have hs0:=hb0.size
 have HNW:=lH (pnewC A n c d zs W0 ((hy.below hb0 (Nat.le_refl _)).more hb0.size) hn hd)
 have HZL:=lH hy.len
 have HNN:=lH hn
 have HVL:=lH (fun W m h g (x:PX W m h g A n c (dpZ d) zs 0)=>pValueC f x (dpZ_le d) (by omega))
 have HR0:=lH hr0
 have HB0:=lH hb0
 have HW0:=lH hW0
 have HNO:=lH (fun W=>noneC W)
 unfold allR
 have hq:=parF_q zs f .val (dpZ d) 0
 obtain ⟨V,hV⟩:∃ V,parF zs f .val (dpZ d) 0 = V:=⟨_,rfl⟩
 rw [hV] at HVL ⊢
 obtain ⟨E,X,q5⟩:=V
 obtain ⟨K,hK⟩:∃ K,blkP zs q5 = K:=⟨_,rfl⟩
 have HKB:=lH hK
 obtain ⟨R,hR⟩:∃ R,allV zs ⟨E,X,q5⟩ = R:=⟨_,rfl⟩
 have HAR:=lH hR
 rw [hR]
 clear hR
 clear hy hb0 hr0 hW0 hs0 hV hq hK hn hd
 go_enter Tryz.func9,Tryz.ntmps9
 go_upto_region 1 with fail
 rw [HW0.out]
 go_upto_region 2 with (first
  | (go_at_call 10;refine HNW.out.mono ?_;(rintro r w1 ⟨rfl,hx1,hb1⟩);have HX1:=lH hx1;have HB1:=lH hb1;clear hx1 hb1))
 have hml:W0.heap.size + 2 < w1.heap.size:=HX1.out.lt
 have HML:=lH hml
 clear hml
 obtain ⟨m,hm⟩:∃ m,W0.heap.size + 2 = m:=⟨_,rfl⟩
 obtain ⟨h,hh⟩:∃ h,W0.heap.size + 1 = h:=⟨_,rfl⟩
 obtain ⟨g,hg⟩:∃ g,W0.heap.size = g:=⟨_,rfl⟩
 rw [hm,hh,hg] at HX1
 rw [hm]
 have HG:=lH hg
 clear hm hh hg
 go_upto_region 3 with (first
  | (go_at_call 21;refine (HVL.out _ _ _ _ HX1.out).mono ?_;(rintro r w5 ⟨d0,d1,d2,d3,d4,hrr,hob,hx5,ho5⟩);(try dsimp only at hrr hob hx5);subst hrr;obtain ⟨k5,n5,A5,m5,e5,A6,m6,e6,A7,m7,e7,rfl,rfl,rfl,rfl,rfl⟩:=hob.shp;have HOX:=lH hob;have HX5:=lH hx5;have HO5:=lH ho5;clear hob hx5 ho5))
 have hb8:=(Below.refl w5.heap.size w5).alloc (Nat.le_refl _) (.cells #[.int .i64 k5,.int .i64 n5,.slice A5 m5 e5,.slice A6 m6 e6,.slice A7 m7 e7] 27)
 have hn8:=heap_alloc_new w5 (.cells #[.int .i64 k5,.int .i64 n5,.slice A5 m5 e5,.slice A6 m6 e6,.slice A7 m7 e7] 27)
 obtain ⟨w8,hw8⟩:∃ w8,w5.alloc (.cells #[.int .i64 k5,.int .i64 n5,.slice A5 m5 e5,.slice A6 m6 e6,.slice A7 m7 e7] 27) = w8:=⟨_,rfl⟩
 rw [hw8] at hb8 hn8
 rw [hw8]
 have HN8:=lH hn8
 have HX8:=lH (HX5.out.low hb8)
 have hgw:W0.heap.size ≤ g:=Nat.le_of_eq HG.out
 have hgl:W0.heap.size ≤ w1.heap.size:=HB1.out.size
 have hbl8:=(HB1.out.trans (HO5.out.belowB hgw (Nat.le_of_lt HX1.out.lx.cu.lt))).trans (hb8.mono (Nat.le_trans hgl HO5.out.size))
 have HBL8:=lH hbl8
 have HR8:=lH (HR0.out.low hbl8)
 have HOX8:=lH (ObR.keep (S':=fun y=>W0.heap.size ≤ y ∧ y < w8.heap.size ∧ y < w5.heap.size ∧ y ≠ g) (fun b hb=>hb8.block b hb.2) (fun b hb=>⟨Nat.le_trans hgl hb.1,Nat.lt_of_lt_of_le hb.2 hb8.size,hb.2,Nat.ne_of_gt (Nat.lt_of_lt_of_le HX1.out.lx.cu.lt hb.1)⟩) _ HOX.out)
 have HSZ:=lH hb8.size
 clear hb8 hn8 hw8 hbl8 hgw hgl
 by_cases hE:E = 0
 ·subst hE
  have HBK:=lH (pblankC h g n c q5 g A zs w8 HX8.out.lx HX8.out.bt (Nat.le_refl _) (by have:=HNN.out;omega))
  have k0:=HX8.out.k0
  go_upto_region 6 with (first
   | (go_at_call 23;refine HBK.out.mono ?_;(rintro r w9 ⟨rfl,hl9,ho9⟩);have HL9:=lH hl9;have HO9:=lH ho9;clear hl9 ho9))
  have hbl9:=HBL8.out.trans (HO9.out.belowB (B:=W0.heap.size) (Nat.le_of_eq HG.out) (Nat.le_of_lt HX8.out.lx.cu.lt))
  have HR9:=lH (HR0.out.low hbl9)
  have HBW:=lH (HB0.out.trans (hbl9.mono HB0.out.size))
  have k9:w9.cell? ⟨m,0,none⟩ = some (.pointer (some ⟨h,0,none⟩)):=by
   rw [HO9.out.cell (p:=⟨m,0,none⟩) HX8.out.lt HX8.out.ne];exact HX8.out.k0
  have j9:=HL9.out.k0
  have hkn:K ≤ n:=by have:=HL9.out.pl;rw [HKB.out] at this;exact this
  have hlf:=left_any g n c _ A w9 HL9.out.cu HL9.out.pl (by have:=HNN.out;omega)
  rw [HKB.out] at hlf
  have HLF:=lH hlf
  clear hlf k0
  by_cases hK2:K < n
  ·obtain rfl:R = noR 3 0:=by rw [← HAR.out];unfold allV;rw [if_neg (fun h=>h rfl),if_pos (by rw [HKB.out,HZL.out];exact hK2)]
   have gK:(n:Int) - K > 0:=by omega
   go_wp2_with (first
    | (go_at_call 24;refine HLF.out.mono ?_;(rintro r wA ⟨rfl,rfl⟩))
    | (go_at_call 22;refine (HNO.out _).mono ?_;(rintro r wB ⟨rfl,hbB⟩);have HRF:=lH (HR9.out.low hbB);obtain ⟨r0,r1,r2,r3,r4,r5⟩:=zero_cells HRF.out;have HBB:=lH (HBW.out.trans (hbB.mono HBW.out.size));clear hbB))
   have HF:=lH (HRF.out.finA (w:=w) (Nat.le_refl _) (Nat.lt_succ_self _) (ob_nul _ _) HBB.out)
   refine bodyPost_ret (results_cell_row_tmp rfl _ _ w.heap.size 27 _ (0,0) _ rfl HF.out.row Tryz.underlying27 rfl (by kernel_rfl) _ rfl) rfl ?_
   exact ⟨_,_,_,_,_,rfl,HF.out.ob,HF.out.bl⟩
  ·obtain rfl:R = ⟨0,X,0⟩:=by rw [← HAR.out];unfold allV;rw [if_neg (fun h=>h rfl),if_neg (by rw [HKB.out,HZL.out];exact hK2)]
   have gK:¬ (n:Int) - K > 0:=by omega
   have hn9:=(HO9.out.block w5.heap.size (row_lt _ _ _ HN8.out) (by have:=HX1.out.lx.cu.lt;have:=HO5.out.size;omega)).trans HN8.out
   have n0:=cell_of_row w9 w5.heap.size 0 _ _ (0,0) hn9
   have n1:=cell_of_row w9 w5.heap.size 1 _ _ (0,0) hn9
   have n2:=cell_of_row w9 w5.heap.size 2 _ _ (0,0) hn9
   have n3:=cell_of_row w9 w5.heap.size 3 _ _ (0,0) hn9
   have n4:=cell_of_row w9 w5.heap.size 4 _ _ (0,0) hn9
   obtain ⟨r0,r1,r2,r3,r4,r5⟩:=zero_cells HR9.out
   have HF:=lH (HR9.out.finA (w:=w) (lo:=W0.heap.size) (Nat.le_refl _) HR0.out.lt (ObR.keep (fun b hb=>HO9.out.block b hb.2.1 hb.2.2.2) (fun b hb=>⟨hb.1,Nat.lt_of_lt_of_le hb.2.1 HO9.out.size⟩) _ HOX8.out) HBW.out)
   clear hn9
   go_wp2_with (first
    | (go_at_call 24;refine HLF.out.mono ?_;(rintro r wA ⟨rfl,rfl⟩)))
   refine bodyPost_ret (results_cell_row_tmp rfl _ _ w.heap.size 27 _ (0,0) _ rfl HF.out.row Tryz.underlying27 rfl (by kernel_rfl) _ rfl) rfl ?_
   exact ⟨_,_,_,_,_,rfl,HF.out.ob,HF.out.bl⟩
 ·obtain rfl:R = noR E 0:=by rw [← HAR.out];unfold allV;rw [if_pos hE]
  have hEb:(E == 0) = false:=beq_eq_false_iff_ne.2 hE
  have HBW:=lH (HB0.out.trans (HBL8.out.mono HB0.out.size))
  clear hE
  go_wp2_with (first
   | (go_at_call 22;refine (HNO.out _).mono ?_;(rintro r wB ⟨rfl,hbB⟩);have HRF:=lH (HR8.out.low hbB);obtain ⟨r0,r1,r2,r3,r4,r5⟩:=zero_cells HRF.out;have HBB:=lH (HBW.out.trans (hbB.mono HBW.out.size));clear hbB))
  have HF:=lH (HRF.out.finA (w:=w) (Nat.le_refl _) (Nat.lt_succ_self _) (ob_nul _ _) HBB.out)
  refine bodyPost_ret (results_cell_row_tmp rfl _ _ w.heap.size 27 _ (0,0) _ rfl HF.out.row Tryz.underlying27 rfl (by kernel_rfl) _ rfl) rfl ?_
  exact ⟨_,_,_,_,_,rfl,HF.out.ob,HF.out.bl⟩
end
section
open Go.RowKit
abbrev zRW:List Int:=[91,49,32,48,32,82,32,50,32,48,32,110,117,108,108,93]
abbrev oRW:Ob:=.mk 6 0 [] (.cons (.mk 9 1 [] .nil .nil) (.cons (.mk 2 2 [] .nil .nil) (.cons (.mk 2 0 [] .nil .nil) (.cons (.mk 0 0 [] .nil .nil) .nil)))) .nil
theorem allRW:allR zRW (dpZ 9) 20 = ⟨0,oRW,0⟩:=by kernel_rfl
set_option maxHeartbeats 2000000 in
theorem awake_any12 (w:World):Calls Tryz.prog 8 #[] w fun e w'=>e = .returned (.bool true) ∧ Below w.heap.size w w':=by
 have hby:=(byt_lit w (16,17) zRW (by decide) 16 rfl _ rfl)
 have hbl:=(Below.refl w.heap.size w).alloc (Nat.le_refl _) (.cells (List.map (Value.int .u8) zRW).toArray 5 (16,17))
 obtain ⟨w1,hw1⟩:∃ w1,w.alloc (.cells (List.map (Value.int .u8) zRW).toArray 5 (16,17)) = w1:=⟨_,rfl⟩
 have hs1:w1.heap.size = w.heap.size + 1:=by rw [← hw1];simp
 rw [hw1,← hs1] at hby
 rw [hw1] at hbl
 have hal:=pAllC _ 16 16 9 zRW w1 20 hby (by omega) (by omega) (by omega)
 rw [allRW] at hal
 have HAL:=lH hal
 have HBL:=lH hbl
 have HW1:=lH hw1
 have kc:=fun (w:World) (C:Array Value) (n c:Nat)=>Lib.run_convert_bytes_const (P:=Tryz.prog) w 23 5 C n c Tryz.underlying23 Tryz.underlying5
 clear hby hbl hs1 hw1 hal
 go_enter Tryz.func8,Tryz.ntmps8
 go_upto_region 2 with (first
  | (go_at_call 9;(try simp only [List.map] at HW1);rw [show (w.alloc _) = w1 from HW1.out];refine HAL.out.mono ?_;(rintro r w5 ⟨d0,d1,d2,d3,d4,hrr,hob,hb5⟩);(try dsimp only at hrr hob);subst hrr;obtain ⟨k5,n5,A5,m5,e5,A6,m6,e6,A7,m7,e7,rfl,rfl,rfl,rfl,rfl⟩:=hob.shp;have HOX:=lH hob;have HB5:=lH hb5;clear hob hb5))
 have hb8:=(Below.refl w5.heap.size w5).alloc (Nat.le_refl _) (.cells #[.int .i64 k5,.int .i64 n5,.slice A5 m5 e5,.slice A6 m6 e6,.slice A7 m7 e7] 27)
 have hn8:=heap_alloc_new w5 (.cells #[.int .i64 k5,.int .i64 n5,.slice A5 m5 e5,.slice A6 m6 e6,.slice A7 m7 e7] 27)
 obtain ⟨w8,hw8⟩:∃ w8,w5.alloc (.cells #[.int .i64 k5,.int .i64 n5,.slice A5 m5 e5,.slice A6 m6 e6,.slice A7 m7 e7] 27) = w8:=⟨_,rfl⟩
 rw [hw8] at hb8 hn8
 rw [hw8]
 have hox:=ObR.keep (S':=fun y=>y < w8.heap.size) (fun b hb=>hb8.block b hb.2) (fun b hb=>Nat.lt_of_lt_of_le hb.2 hb8.size) _ HOX.out
 have n0:=cell_of_row w8 w5.heap.size 0 _ _ (0,0) hn8
 have n3:=cell_of_row w8 w5.heap.size 3 _ _ (0,0) hn8
 have HBE:=lH ((HBL.out.trans (HB5.out.mono HBL.out.size)).trans (hb8.mono (Nat.le_trans HBL.out.size HB5.out.size)))
 clear hn8 hw8 hb8
 unfold ObR at hox
 obtain ⟨e0,-,-,-,-,⟨AL,cL,e3,hcL,hLL⟩,-⟩:=hox
 injection e0 with _ e0
 injection e3 with e31 e32 e33
 subst e0 e31 e32 e33
 obtain ⟨g,o,rfl,_,hob⟩:=hLL (by decide)
 obtain ⟨a0,a1,a2,a3,a4,x0,_,_,_,_,hx0⟩:=ObsR.get _ g o 0 _ hob rfl
 obtain ⟨b0,b1,b2,b3,b4,_,y1,_,_,_,hx1⟩:=ObsR.get _ g o 1 _ hob rfl
 obtain ⟨c0,c1,c2,c3,c4,z0,_,_,_,_,hx3⟩:=ObsR.get _ g o 3 _ hob rfl
 unfold ObR at hx0 hx1 hx3
 obtain ⟨rfl,-⟩:=hx0
 obtain ⟨-,rfl,-⟩:=hx1
 obtain ⟨rfl,-⟩:=hx3
 have p0:w8.cell? ⟨g,o,none⟩ = some (.int .i64 9):=x0
 have p1:w8.cell? ⟨g,o + 5 + 1,none⟩ = some (.int .i64 2):=y1
 have p3:w8.cell? ⟨g,o + 15,none⟩ = some (.int .i64 0):=z0
 clear hob hLL x0 y1 z0
 go_wp2_with fail
 go_ret
 exact ⟨rfl,HBE.out⟩
end
section
open Go.RowKit
set_option maxHeartbeats 4000000 in
theorem bodyPlain {w:World} {m h g n c d p:Nat} {A:Option Addr} {zs:List Int} (f:Nat) (x:PX w m h g A n c d zs p) (hd:d ≤ 28) (hf:n - p < f)
  (hno:(parF zs f .val d p).e ≠ 0 ∨ (parF zs f .val d p).x.kind ≠ 7 ∨ kwB zs (parF zs f .val d p).q strStm = false) :
  Calls Tryz.prog 28 #[.pointer (some ⟨m,0,none⟩)] w (VaP m h g A n c d zs w (parF zs f .val d p)):=by
 have hx0:=x.alloc (.cells #[.int .i64 0,.int .i64 0,.slice none 0 0,.slice none 0 0,.slice none 0 0] 27)
 have ho0:=(Only.refl g w).alloc (.cells #[.int .i64 0,.int .i64 0,.slice none 0 0,.slice none 0 0,.slice none 0 0] 27)
 have hr0:=RsB.new w
 obtain ⟨W0,hW0⟩:∃ W0,w.alloc (.cells #[.int .i64 0,.int .i64 0,.slice none 0 0,.slice none 0 0,.slice none 0 0] 27) = W0:=⟨_,rfl⟩
 rw [hW0] at hx0 ho0 hr0
 have HVL:=lH ((parC m h g A n c d zs f).2.2 d W0 p (by omega) hx0 hf)
 have HWB:Hid (w.heap.size ≤ w.heap.size):=lH (Nat.le_refl _)
 have HLT:Hid (m < w.heap.size ∧ h < w.heap.size ∧ g < w.heap.size):=lH ⟨x.lt,x.lx.lt,x.lx.cu.lt⟩
 have k1:=hx0.k1
 have HO0:=lH ho0
 have HR0:=lH hr0
 have HW0:=lH hW0
 obtain ⟨R,hR⟩:∃ R,parF zs f .val d p = R:=⟨_,rfl⟩
 rw [hR] at HVL hno ⊢
 obtain ⟨E,X,q5⟩:=R
 dsimp only at hno
 have HKW:=lH (fun W (hW:PX W m h g A n c d zs q5)=>pkwC hW strStm (by decide))
 clear hx0 ho0 hr0 hW0 x hR hd hf
 by_cases hE:E = 0
 ·subst hE
  by_cases hk:X.kind = 7
  ·have hkw:kwB zs q5 strStm = false:=by
    rcases hno with h | h | h
    ·exact absurd rfl h
    ·exact absurd hk h
    ·exact h
   have hkp:kwP zs q5 strStm = q5:=by unfold kwP;rw [if_neg (by rw [hkw];decide)]
   rw [hkw,hkp] at HKW
   go_enter Tryz.func28,Tryz.ntmps28
   go_upto_region 1 with fail
   rw [HW0.out]
   go_upto_region 2 with (first
    | (go_at_call 38;refine HVL.out.mono ?_;(rintro r w5 ⟨d0,d1,d2,d3,d4,hrr,hob,hx5,ho5⟩);(try dsimp only at hrr hob hx5);subst hrr;obtain ⟨k5,n5,A5,m5,e5,A6,m6,e6,A7,m7,e7,rfl,rfl,rfl,rfl,rfl⟩:=hob.shp;have HOB:=lH hob;have HX5:=lH hx5;have HO5:=lH ho5;clear hob hx5 ho5))
   have hk5:=kind_c0 HOB.out
   have hkk:k5 = X.kind:=by injection hk5
   have hb6:=(Below.refl w5.heap.size w5).alloc (Nat.le_refl _) (.cells #[.int .i64 k5,.int .i64 n5,.slice A5 m5 e5,.slice A6 m6 e6,.slice A7 m7 e7] 27)
   have hn6:=heap_alloc_new w5 (.cells #[.int .i64 k5,.int .i64 n5,.slice A5 m5 e5,.slice A6 m6 e6,.slice A7 m7 e7] 27)
   obtain ⟨w6,hw6⟩:∃ w6,w5.alloc (.cells #[.int .i64 k5,.int .i64 n5,.slice A5 m5 e5,.slice A6 m6 e6,.slice A7 m7 e7] 27) = w6:=⟨_,rfl⟩
   rw [hw6] at hb6 hn6
   rw [hw6]
   have HN6:=lH hn6
   have HX6:=lH (HX5.out.low hb6)
   have HO6:=lH ((HO0.out.trans HO5.out).trans (Only.of_below hb6 g))
   have HOB6:=lH (ObR.keep (S':=nwT W0 w6) (fun y hy=>hb6.block y hy.2) (fun y hy=>⟨hy.1,Nat.lt_of_lt_of_le hy.2 hb6.size⟩) _ HOB.out)
   have HR6:=lH ((HR0.out.only HO5.out HLT.out.2.2).low hb6)
   have n0:=cell_of_row w6 w5.heap.size 0 _ _ (0,0) hn6
   have n1:=cell_of_row w6 w5.heap.size 1 _ _ (0,0) hn6
   have n2:=cell_of_row w6 w5.heap.size 2 _ _ (0,0) hn6
   have n3:=cell_of_row w6 w5.heap.size 3 _ _ (0,0) hn6
   have n4:=cell_of_row w6 w5.heap.size 4 _ _ (0,0) hn6
   clear hb6 hn6 hw6 hk5
   rw [hk] at hkk
   subst hkk
   have k6:=HX6.out.k0
   go_upto_region 3 with (first
    | (go_at_call 46;refine (HKW.out _ HX6.out).mono ?_;(rintro r w7 ⟨rfl,hx7,ho7⟩);have HX7:=lH hx7;have HO7:=lH ho7;clear hx7 ho7))
   have hn7:=(HO7.out.block _ (row_lt _ _ _ HN6.out) (by have:=HX5.out.lx.cu.lt;omega)).trans HN6.out
   clear n0 n1 n2 n3 n4
   have n0:=cell_of_row w7 w5.heap.size 0 _ _ (0,0) hn7
   have n1:=cell_of_row w7 w5.heap.size 1 _ _ (0,0) hn7
   have n2:=cell_of_row w7 w5.heap.size 2 _ _ (0,0) hn7
   have n3:=cell_of_row w7 w5.heap.size 3 _ _ (0,0) hn7
   have n4:=cell_of_row w7 w5.heap.size 4 _ _ (0,0) hn7
   have HRF:=lH (HR6.out.only HO7.out HLT.out.2.2)
   have hob7:=ObR.keep (S':=nwT W0 w7) (fun y hy=>HO7.out.block y hy.2 (by have h1:=hy.1;have h2:=HR0.out.lt;have h3:=HLT.out.2.2;omega)) (fun y hy=>⟨hy.1,Nat.lt_of_lt_of_le hy.2 HO7.out.size⟩) _ HOB6.out
   have HF:=lH (RsB.finN (w:=w) HR0.out HRF.out HWB.out hob7 HX7.out (HO6.out.trans HO7.out) HLT.out)
   obtain ⟨r0,r1,r2,r3,r4,r5⟩:=zero_cells HRF.out
   clear hn7 hob7
   go_wp2_with fail
   refine bodyPost_ret (results_cell_row_tmp rfl _ _ w.heap.size 27 _ (0,0) _ rfl HF.out.row Tryz.underlying27 rfl (by kernel_rfl) _ rfl) rfl ?_
   exact ⟨_,_,_,_,_,rfl,HF.out.ob,HF.out.px,HF.out.on⟩
  ·clear hno HKW
   go_enter Tryz.func28,Tryz.ntmps28
   go_upto_region 1 with fail
   rw [HW0.out]
   go_upto_region 2 with (first
    | (go_at_call 38;refine HVL.out.mono ?_;(rintro r w5 ⟨d0,d1,d2,d3,d4,hrr,hob,hx5,ho5⟩);(try dsimp only at hrr hob hx5);subst hrr;obtain ⟨k5,n5,A5,m5,e5,A6,m6,e6,A7,m7,e7,rfl,rfl,rfl,rfl,rfl⟩:=hob.shp;have HOB:=lH hob;have HX5:=lH hx5;have HO5:=lH ho5;clear hob hx5 ho5))
   have hk5:=kind_c0 HOB.out
   have hkk:k5 = X.kind:=by injection hk5
   have hb6:=(Below.refl w5.heap.size w5).alloc (Nat.le_refl _) (.cells #[.int .i64 k5,.int .i64 n5,.slice A5 m5 e5,.slice A6 m6 e6,.slice A7 m7 e7] 27)
   have hn6:=heap_alloc_new w5 (.cells #[.int .i64 k5,.int .i64 n5,.slice A5 m5 e5,.slice A6 m6 e6,.slice A7 m7 e7] 27)
   obtain ⟨w6,hw6⟩:∃ w6,w5.alloc (.cells #[.int .i64 k5,.int .i64 n5,.slice A5 m5 e5,.slice A6 m6 e6,.slice A7 m7 e7] 27) = w6:=⟨_,rfl⟩
   rw [hw6] at hb6 hn6
   rw [hw6]
   have HN6:=lH hn6
   have HX6:=lH (HX5.out.low hb6)
   have HO6:=lH ((HO0.out.trans HO5.out).trans (Only.of_below hb6 g))
   have HOB6:=lH (ObR.keep (S':=nwT W0 w6) (fun y hy=>hb6.block y hy.2) (fun y hy=>⟨hy.1,Nat.lt_of_lt_of_le hy.2 hb6.size⟩) _ HOB.out)
   have HR6:=lH ((HR0.out.only HO5.out HLT.out.2.2).low hb6)
   have n0:=cell_of_row w6 w5.heap.size 0 _ _ (0,0) hn6
   have n1:=cell_of_row w6 w5.heap.size 1 _ _ (0,0) hn6
   have n2:=cell_of_row w6 w5.heap.size 2 _ _ (0,0) hn6
   have n3:=cell_of_row w6 w5.heap.size 3 _ _ (0,0) hn6
   have n4:=cell_of_row w6 w5.heap.size 4 _ _ (0,0) hn6
   clear hb6 hn6 hw6 hk5
   have hkn:(k5 != 7) = true:=by rw [bne,beq_eq_false_iff_ne.2 (by rw [hkk];exact hk)];rfl
   have HF:=lH (RsB.finN (w:=w) HR0.out HR6.out HWB.out HOB6.out HX6.out HO6.out HLT.out)
   obtain ⟨r0,r1,r2,r3,r4,r5⟩:=zero_cells HR6.out
   clear hkk hk
   go_wp2_with fail
   refine bodyPost_ret (results_cell_row_tmp rfl _ _ w.heap.size 27 _ (0,0) _ rfl HF.out.row Tryz.underlying27 rfl (by kernel_rfl) _ rfl) rfl ?_
   exact ⟨_,_,_,_,_,rfl,HF.out.ob,HF.out.px,HF.out.on⟩
 ·have hEb:(E == 0) = false:=beq_eq_false_iff_ne.2 hE
  have hEn:(E != 0) = true:=by rw [bne,hEb];rfl
  clear hno HKW hE
  go_enter Tryz.func28,Tryz.ntmps28
  go_upto_region 1 with fail
  rw [HW0.out]
  go_upto_region 2 with (first
   | (go_at_call 38;refine HVL.out.mono ?_;(rintro r w5 ⟨d0,d1,d2,d3,d4,hrr,hob,hx5,ho5⟩);(try dsimp only at hrr hob hx5);subst hrr;obtain ⟨k5,n5,A5,m5,e5,A6,m6,e6,A7,m7,e7,rfl,rfl,rfl,rfl,rfl⟩:=hob.shp;have HOB:=lH hob;have HX5:=lH hx5;have HO5:=lH ho5;clear hob hx5 ho5))
  have hk5:=kind_c0 HOB.out
  have hkk:k5 = X.kind:=by injection hk5
  have hb6:=(Below.refl w5.heap.size w5).alloc (Nat.le_refl _) (.cells #[.int .i64 k5,.int .i64 n5,.slice A5 m5 e5,.slice A6 m6 e6,.slice A7 m7 e7] 27)
  have hn6:=heap_alloc_new w5 (.cells #[.int .i64 k5,.int .i64 n5,.slice A5 m5 e5,.slice A6 m6 e6,.slice A7 m7 e7] 27)
  obtain ⟨w6,hw6⟩:∃ w6,w5.alloc (.cells #[.int .i64 k5,.int .i64 n5,.slice A5 m5 e5,.slice A6 m6 e6,.slice A7 m7 e7] 27) = w6:=⟨_,rfl⟩
  rw [hw6] at hb6 hn6
  rw [hw6]
  have HN6:=lH hn6
  have HX6:=lH (HX5.out.low hb6)
  have HO6:=lH ((HO0.out.trans HO5.out).trans (Only.of_below hb6 g))
  have HOB6:=lH (ObR.keep (S':=nwT W0 w6) (fun y hy=>hb6.block y hy.2) (fun y hy=>⟨hy.1,Nat.lt_of_lt_of_le hy.2 hb6.size⟩) _ HOB.out)
  have HR6:=lH ((HR0.out.only HO5.out HLT.out.2.2).low hb6)
  have n0:=cell_of_row w6 w5.heap.size 0 _ _ (0,0) hn6
  have n1:=cell_of_row w6 w5.heap.size 1 _ _ (0,0) hn6
  have n2:=cell_of_row w6 w5.heap.size 2 _ _ (0,0) hn6
  have n3:=cell_of_row w6 w5.heap.size 3 _ _ (0,0) hn6
  have n4:=cell_of_row w6 w5.heap.size 4 _ _ (0,0) hn6
  clear hb6 hn6 hw6 hk5
  have HF:=lH (RsB.finN (w:=w) HR0.out HR6.out HWB.out HOB6.out HX6.out HO6.out HLT.out)
  obtain ⟨r0,r1,r2,r3,r4,r5⟩:=zero_cells HR6.out
  clear hkk
  go_wp2_with fail
  refine bodyPost_ret (results_cell_row_tmp rfl _ _ w.heap.size 27 _ (0,0) _ rfl HF.out.row Tryz.underlying27 rfl (by kernel_rfl) _ rfl) rfl ?_
  exact ⟨_,_,_,_,_,rfl,HF.out.ob,HF.out.px,HF.out.on⟩
end
section
open Go.RowKit
theorem PX.set1 {w:World} {m h g n c d p b:Nat} {A:Option Addr} {zs:List Int} (x:PX w m h g A n c d zs p) (hm:m < b) (hh:h < b) (hg:g < b) (i:Nat) (v:Value):PX (w.setCell ⟨b,i,none⟩ v) m h g A n c d zs p :=
 ⟨(set_blk9 w b i m v (Nat.ne_of_lt hm)).trans x.ps,x.lx.keep2 (set_blk9 w b i h v (Nat.ne_of_lt hh)) (set_blk9 w b i g v (Nat.ne_of_lt hg)),
  ⟨x.bt.len,x.bt.cap,x.bt.rng,fun hn=>by
  obtain ⟨b',o,e,hlt,hc⟩:=x.bt.cell hn
  exact ⟨b',o,e,hlt,fun j hj=>(World.cell?_of_block (a:=⟨b',o + j,none⟩) (set_blk9 w b i b' v (by omega))).trans (hc j hj)⟩⟩,x.ne,x.sm⟩
structure BsS (w W:World) (m h g:Nat) (A:Option Addr) (n c d:Nat) (zs:List Int) (q bo:Nat) (tl:List Value):Prop where
 px:PX W m h g A n c d zs q
 on:Only g w W
 rs:RsB w.heap.size W
 tb:W.heap[bo]? = some (.cells tl.toArray 27 (0,0))
 lt:m < w.heap.size ∧ h < w.heap.size ∧ g < w.heap.size
 bb:w.heap.size < bo
section
variable {w W W':World} {m h g n c d q q' bo:Nat} {A:Option Addr} {zs:List Int} {tl:List Value}
theorem BsS.only (s:BsS w W m h g A n c d zs q bo tl) (hp:PX W' m h g A n c d zs q') (ho:Only g W W'):BsS w W' m h g A n c d zs q' bo tl :=
 ⟨hp,s.on.trans ho,s.rs.only ho s.lt.2.2,(ho.block _ (row_lt _ _ _ s.tb) (Nat.ne_of_gt (Nat.lt_trans s.lt.2.2 s.bb))).trans s.tb,s.lt,s.bb⟩
theorem BsS.low (s:BsS w W m h g A n c d zs q bo tl) (hb:Below W.heap.size W W'):BsS w W' m h g A n c d zs q bo tl :=
 s.only (s.px.low hb) (Only.of_below hb g)
theorem BsS.setT (s:BsS w W m h g A n c d zs q bo tl) (i:Nat) (v:Value):BsS w (W.setCell ⟨bo,i,none⟩ v) m h g A n c d zs q bo (tl.set i v) :=
 have hb:=s.bb
 have hl:=s.lt
 ⟨s.px.set1 (by omega) (by omega) (by omega) i v,s.on.setN (by omega) i v,(set_blk9 W bo i _ v (by omega)).trans s.rs,heap_set W bo i v tl _ s.tb,s.lt,s.bb⟩
theorem BsS.fr (s:BsS w W m h g A n c d zs q bo tl) (i:Nat):W.frozen? ⟨bo,i,none⟩ = false:=by
 have:=s.tb
 simp [World.frozen?,this]
end
set_option maxHeartbeats 4000000 in
theorem bodyStm {w:World} {m h g n c d p:Nat} {A:Option Addr} {zs:List Int} (f:Nat) (x:PX w m h g A n c d zs p) (hd:d ≤ 28) (hf:n - p < f)
  (hyes:stmB zs (parF zs f .val d p) = true) :
  Calls Tryz.prog 28 #[.pointer (some ⟨m,0,none⟩)] w (VaP m h g A n c d zs w (strT zs (parF zs f .val d p))):=by
 have hg:=parF_g zs f .val d p x.pz trivial
 have hzl:=x.len
 have hsm:=x.sm
 have hx0:=x.alloc (.cells #[.int .i64 0,.int .i64 0,.slice none 0 0,.slice none 0 0,.slice none 0 0] 27)
 have ho0:=(Only.refl g w).alloc (.cells #[.int .i64 0,.int .i64 0,.slice none 0 0,.slice none 0 0,.slice none 0 0] 27)
 have hr0:=RsB.new w
 obtain ⟨W0,hW0⟩:∃ W0,w.alloc (.cells #[.int .i64 0,.int .i64 0,.slice none 0 0,.slice none 0 0,.slice none 0 0] 27) = W0:=⟨_,rfl⟩
 rw [hW0] at hx0 ho0 hr0
 have HVL:=lH ((parC m h g A n c d zs f).2.2 d W0 p (by omega) hx0 hf)
 have HWB:Hid (w.heap.size ≤ w.heap.size):=lH (Nat.le_refl _)
 have HLT:Hid (m < w.heap.size ∧ h < w.heap.size ∧ g < w.heap.size):=lH ⟨x.lt,x.lx.lt,x.lx.cu.lt⟩
 have k1:=hx0.k1
 have HO0:=lH ho0
 have HR0:=lH hr0
 have HW0:=lH hW0
 obtain ⟨R,hR⟩:∃ R,parF zs f .val d p = R:=⟨_,rfl⟩
 rw [hR] at HVL hyes hg ⊢
 obtain ⟨E,X,q5⟩:=R
 obtain ⟨kx,nx,bx,lx,dx⟩:=X
 unfold stmB at hyes
 simp only [Bool.and_eq_true,decide_eq_true_eq] at hyes
 obtain ⟨hE,hkx,hkw⟩:=hyes
 subst hE
 have hkx:kx = 7:=hkx
 subst hkx
 obtain ⟨hp1,hp2,hp3,hp4,hp5,hp6,hp7⟩:=g_parts hg
 have hmd:mdH d .val = d + 1:=rfl
 rw [hmd] at hp3 hp7
 have HKW:=lH (fun W (hW:PX W m h g A n c d zs q5)=>pkwC hW strStm (by decide))
 rw [hkw] at HKW
 obtain ⟨RR,hRR⟩:∃ RR,strT zs ⟨0,.mk 7 nx bx lx dx,q5⟩ = RR:=⟨_,rfl⟩
 rw [hRR]
 obtain ⟨K,hK⟩:∃ K,kwP zs q5 strStm = K:=⟨_,rfl⟩
 rw [hK] at HKW
 have HGT:=lH (fun (W:World) (S:Nat → Prop) c0 c1 c2 c3 c4 (hob:ObR W S (.mk 7 nx bx lx dx) c0 c1 c2 c3 c4) (hS:∀ y,S y → y < W.heap.size)=>pGetC zs.length (.mk 7 nx bx lx dx) strLen S W c0 c1 c2 c3 c4 hob hS (by rw [keyedE,if_pos (.inl rfl)];exact hp2) (by rw [keyedE,if_pos (.inl rfl)];have:zs.length * htE dx ≤ 900000 * 29:=Nat.mul_le_mul (by omega) (by omega);omega) (by rw [keyedE,if_pos (.inl rfl)];omega))
 have HDR:=lH (fun (W:World) (S:Nat → Prop) c0 c1 c2 c3 c4 (AK:Option Addr) (cK:Nat) (hob:ObR W S (.mk 7 nx bx lx dx) c0 c1 c2 c3 c4) (hS:∀ y,S y → y < W.heap.size) (hKv:KeysV W AK [strLen])=>pDropC zs.length nx bx lx dx [strLen] AK cK S W c0 c1 c2 c3 c4 hob hS hKv (by decide) (fun t ht=>by rw [List.mem_singleton] at ht;subst ht;decide) (fun t ht=>Nat.le_trans (hp4 t ht) (by decide)) (by omega) hp6 (by have:=hp7 (by omega);have:zs.length * htO (.mk 7 nx bx lx (dropE [strLen] dx)) ≤ 900000 * 30:=Nat.mul_le_mul (by omega) (by omega);omega))
 have hlo:lenO (.mk 7 nx bx lx dx) = getF (.mk 7 nx bx lx dx) strLen:=rfl
 rw [← hlo] at HGT
 obtain ⟨G,hG⟩:∃ G,lenO (.mk 7 nx bx lx dx) = G:=⟨_,rfl⟩
 obtain ⟨gk,gn,gb,gl,gd⟩:=G
 rw [hG] at HGT
 have hzz:=dataT_len zs K gk gn
 have HDT:=lH (fun W (hW:PX W m h g A n c d zs K) c2 c3 c4=>dataC hW gk gn c2 c3 c4)
 obtain ⟨DT,hDT⟩:∃ DT,dataT zs K gk gn = DT:=⟨_,rfl⟩
 obtain ⟨E2,Z2,Q2⟩:=DT
 rw [hDT] at HDT hzz
 have hval:(if E2 ≠ 0 then noR E2 Q2 else (⟨0,.mk 8 nx Z2 lx (dropE [strLen] dx),Q2⟩:Rt)) = RR:=by
  have h2:dataT zs K (Ob.mk gk gn gb gl gd).kind (Ob.mk gk gn gb gl gd).num = (E2,Z2,Q2):=hDT
  rw [← hRR];unfold strT;rw [hK,hG,h2];rfl
 have HRR:=lH hval
 dsimp only at hzz
 have HZ2:Hid (Z2.length ≤ 1000000):=lH (by omega)
 clear hx0 ho0 hr0 hW0 x hR hd hf hg hp1 hp2 hp3 hp4 hp5 hp6 hp7 hmd hkw hK hlo hG hDT hzz hzl hsm hval hRR
 go_enter Tryz.func28,Tryz.ntmps28
 go_upto_region 1 with fail
 rw [HW0.out]
 go_upto_region 2 with (first
  | (go_at_call 38;refine HVL.out.mono ?_;(rintro r w5 ⟨d0,d1,d2,d3,d4,hrr,hob,hx5,ho5⟩);(try dsimp only at hrr hob hx5);subst hrr;obtain ⟨k5,n5,A5,m5,e5,A6,m6,e6,A7,m7,e7,rfl,rfl,rfl,rfl,rfl⟩:=hob.shp;have HOB:=lH hob;have HX5:=lH hx5;have HO5:=lH ho5;clear hob hx5 ho5))
 have hk5:=kind_c0 HOB.out
 have hkk:k5 = 7:=by injection hk5
 subst hkk
 have hb6:=(Below.refl w5.heap.size w5).alloc (Nat.le_refl _) (.cells #[.int .i64 7,.int .i64 n5,.slice A5 m5 e5,.slice A6 m6 e6,.slice A7 m7 e7] 27)
 have hn6:=heap_alloc_new w5 (.cells #[.int .i64 7,.int .i64 n5,.slice A5 m5 e5,.slice A6 m6 e6,.slice A7 m7 e7] 27)
 obtain ⟨w6,hw6⟩:∃ w6,w5.alloc (.cells #[.int .i64 7,.int .i64 n5,.slice A5 m5 e5,.slice A6 m6 e6,.slice A7 m7 e7] 27) = w6:=⟨_,rfl⟩
 rw [hw6] at hb6 hn6
 rw [hw6]
 obtain ⟨bo,hbo⟩:∃ bo,w5.heap.size = bo:=⟨_,rfl⟩
 have HBO:Hid (w.heap.size < bo ∧ g < bo):=lH (by rw [← hbo];have h1:=HR0.out.lt;have h2:=HO5.out.size;have h3:=HLT.out.2.2;omega)
 have hx6:=HX5.out.low hb6
 have HX6:=lH hx6
 have HO6:=lH ((HO0.out.trans HO5.out).trans (Only.of_below hb6 g))
 have HOB6:=lH (ObR.keep (S':=fun y=>w.heap.size < y ∧ y < bo) (fun y hy=>hb6.block y hy.2) (fun y hy=>⟨Nat.lt_of_lt_of_le HR0.out.lt hy.1,by rw [← hbo];exact hy.2⟩) _ HOB.out)
 have HR6:=lH ((HR0.out.only HO5.out HLT.out.2.2).low hb6)
 rw [hbo] at hn6
 rw [hbo]
 have HN6:=lH hn6
 have n0:=cell_of_row w6 bo 0 _ _ (0,0) hn6
 have n1:=cell_of_row w6 bo 1 _ _ (0,0) hn6
 have n2:=cell_of_row w6 bo 2 _ _ (0,0) hn6
 have n3:=cell_of_row w6 bo 3 _ _ (0,0) hn6
 have n4:=cell_of_row w6 bo 4 _ _ (0,0) hn6
 have k6:=hx6.k0
 clear hb6 hn6 hw6 hk5 hx6 hbo
 go_upto_region 4 with (first
  | (go_at_call 46;refine (HKW.out _ HX6.out).mono ?_;(rintro r w7 ⟨rfl,hx7,ho7⟩);have HX7:=lH hx7;have HO7:=lH ho7;clear hx7 ho7))
 have hn7:=(HO7.out.block _ (row_lt _ _ _ HN6.out) (Nat.ne_of_gt HBO.out.2)).trans HN6.out
 have HOB7:=lH (ObR.keep (S':=fun y=>w.heap.size < y ∧ y < bo) (fun y hy=>HO7.out.block y (Nat.lt_trans hy.2 (row_lt _ _ _ HN6.out)) (Nat.ne_of_gt (Nat.lt_trans HLT.out.2.2 hy.1))) (fun y hy=>hy) _ HOB6.out)
 have HR7:=lH (HR6.out.only HO7.out HLT.out.2.2)
 have HN7:=lH hn7
 have HB7:Hid (bo < w7.heap.size):=lH (row_lt _ _ _ hn7)
 have HO7W:=lH (HO6.out.trans HO7.out)
 clear n0 n1 n2 n3 n4 k6
 have n0:=cell_of_row w7 bo 0 _ _ (0,0) hn7
 have n1:=cell_of_row w7 bo 1 _ _ (0,0) hn7
 have n2:=cell_of_row w7 bo 2 _ _ (0,0) hn7
 have n3:=cell_of_row w7 bo 3 _ _ (0,0) hn7
 have n4:=cell_of_row w7 bo 4 _ _ (0,0) hn7
 clear hn7
 go_upto_region 5 with (first
  | (go_at_call 48;refine (HGT.out _ _ _ _ _ _ _ HOB7.out (fun y hy=>Nat.lt_trans hy.2 HB7.out)).mono ?_;(rintro r w8 ⟨g0,g1,g2,g3,g4,hrr,hg8,hb8⟩);subst hrr;(unfold ObR at hg8);(obtain ⟨rfl,rfl,-,-,⟨G2,l2,e2,rfl,-⟩,⟨G3,e3,rfl,-⟩,⟨G4,e4,rfl,-⟩⟩:=hg8);have HX8:=lH (HX7.out.low hb8);have HB8:=lH hb8;clear hb8)
  | (go_at_call 47;refine (HDT.out _ HX8.out _ _ _).mono ?_;(rintro r w9 ⟨A',l',c',hrr,hy9,hf9,hx9,ho9⟩);(try dsimp only at hrr hy9 hx9);subst hrr;have HY9:=lH hy9;have HF9:=lH hf9;have HX9:=lH hx9;have HO9:=lH ho9;clear hy9 hf9 hx9 ho9))
 have hs9:BsS w w9 m h g A n c d zs Q2 bo [.int .i64 7,.int .i64 n5,.slice A5 m5 e5,.slice A6 m6 e6,.slice A7 m7 e7] :=
  BsS.only (W:=w8) (q:=K) (BsS.low (W:=w7) ⟨HX7.out,HO7W.out,HR7.out,HN7.out,HLT.out,HBO.out.1⟩ HB8.out) HX9.out HO9.out
 have hob9:=ObR.keep (S':=fun y=>w.heap.size < y ∧ y < bo) (fun y hy=>HO9.out.block y (Nat.lt_of_lt_of_le (Nat.lt_trans hy.2 HB7.out) HB8.out.size) (Nat.ne_of_gt (Nat.lt_trans HLT.out.2.2 hy.1))) (fun y hy=>hy) _ (ObR.keep (S':=fun y=>w.heap.size < y ∧ y < bo) (fun y hy=>HB8.out.block y (Nat.lt_trans hy.2 HB7.out)) (fun y hy=>hy) _ HOB7.out)
 have hbz:=byt_any (S:=fun y=>bo < y ∧ y < w9.heap.size) HY9.out HF9.out HZ2.out (fun y h1 h2=>⟨by have:=HB7.out;have:=HB8.out.size;omega,h2⟩)
 have HS9:=lH hs9
 have HOB9:=lH hob9
 have HBZ:=lH hbz
 clear hs9 hob9 hbz n0 n1 n2 n3 n4 HX9 HO9 HY9 HF9 HX8 HB8 HX7 HO7W HR7 HN7 HOB7 HB7 HO7 HR6 HOB6 HO6 HX6 HN6 HOB HX5 HO5 HR0 HO0 HGT HDT HKW HVL
 by_cases h2:E2 = 0
 ·subst h2
  have hrr:RR = ⟨0,.mk 8 nx Z2 lx (dropE [strLen] dx),Q2⟩:=by rw [← HRR.out,if_neg (fun h=>h rfl)]
  subst hrr
  have n0:=cell_of_row w9 bo 0 _ _ (0,0) HS9.out.tb
  have n1:=cell_of_row w9 bo 1 _ _ (0,0) HS9.out.tb
  have n2:=cell_of_row w9 bo 2 _ _ (0,0) HS9.out.tb
  have n3:=cell_of_row w9 bo 3 _ _ (0,0) HS9.out.tb
  have n4:=cell_of_row w9 bo 4 _ _ (0,0) HS9.out.tb
  have hbA:=(Below.refl w9.heap.size w9).alloc (Nat.le_refl _) (.cells #[.string strLen] 9)
  have hkA:=keys_one w9 strLen
  obtain ⟨wA,hwA⟩:∃ wA,w9.alloc (.cells #[.string strLen] 9) = wA:=⟨_,rfl⟩
  rw [hwA] at hbA hkA
  have HOBA:=lH (ObR.keep (S':=fun y=>w.heap.size < y ∧ y < bo) (fun y hy=>hbA.block y (Nat.lt_trans hy.2 (row_lt _ _ _ HS9.out.tb))) (fun y hy=>hy) _ HOB9.out)
  have HBA:=lH hbA
  have HKA:=lH hkA
  have hbt:Hid (bo < wA.heap.size):=lH (Nat.lt_of_lt_of_le (row_lt _ _ _ HS9.out.tb) hbA.size)
  unfold strLen at hwA
  have HWA:=lH hwA
  clear hbA hkA hwA
  go_upto_region 7 with fail
  go_upto_region 8 with (first
   | (go_at_call 49;rw [HWA.out];refine (HDR.out wA _ _ _ _ _ _ _ _ HOBA.out (fun y hy=>Nat.lt_trans hy.2 hbt.out) HKA.out).mono ?_;(rintro r wB ⟨f0,f1,f2,f3,f4,hrr,hobB,hbB⟩);subst hrr;clear n0 n1 n2 n3 n4;(obtain ⟨kf,nf,F2,l2f,x2f,F3,l3f,x3f,F4,l4f,x4f,rfl,rfl,rfl,rfl,rfl⟩:=hobB.form);have HOBB:=lH hobB;have HBB:=lH hbB;have HSB:=lH ((HS9.out.low HBA.out).low hbB);have n0:=cell_of_row wB bo 0 _ _ (0,0) HSB.out.tb;have n1:=cell_of_row wB bo 1 _ _ (0,0) HSB.out.tb;have n2:=cell_of_row wB bo 2 _ _ (0,0) HSB.out.tb;have n3:=cell_of_row wB bo 3 _ _ (0,0) HSB.out.tb;have n4:=cell_of_row wB bo 4 _ _ (0,0) HSB.out.tb;have nf9:=HSB.out.fr;clear hobB hbB))
  have hsC:=((((HSB.out.setT 0 (.int .i64 kf)).setT 1 (.int .i64 nf)).setT 2 (.slice F2 l2f x2f)).setT 3 (.slice F3 l3f x3f)).setT 4 (.slice F4 l4f x4f)
  have hobC:=ObR.keep (S':=fun y=>bo < y ∧ y < wB.heap.size) (fun y hy=>heap_set5 (W:=wB) (g:=bo) (x0:=.int .i64 kf) (x1:=.int .i64 nf) (x2:=.slice F2 l2f x2f) (x3:=.slice F3 l3f x3f) (x4:=.slice F4 l4f x4f) (Nat.ne_of_gt (Nat.lt_of_lt_of_le hbt.out hy.1))) (fun y hy=>⟨Nat.lt_of_lt_of_le hbt.out hy.1,hy.2⟩) _ HOBB.out
  have hbzC:BytS _ (fun y=>bo < y ∧ y < wB.heap.size) A' l' c' Z2:=(HBZ.out.keep (w':=wA) (S':=fun y=>bo < y ∧ y < wA.heap.size) (fun y hy=>HBA.out.block y hy.2) (fun y hy=>⟨hy.1,Nat.lt_of_lt_of_le hy.2 HBA.out.size⟩)).keep (fun y hy=>(heap_set5 (W:=wB) (g:=bo) (x0:=.int .i64 kf) (x1:=.int .i64 nf) (x2:=.slice F2 l2f x2f) (x3:=.slice F3 l3f x3f) (x4:=.slice F4 l4f x4f) (Nat.ne_of_gt hy.1)).trans (HBB.out.block y hy.2)) (fun y hy=>⟨hy.1,Nat.lt_of_lt_of_le hy.2 HBB.out.size⟩)
  have hszC:(((((wB.setCell ⟨bo,0,none⟩ (.int .i64 kf)).setCell ⟨bo,1,none⟩ (.int .i64 nf)).setCell ⟨bo,2,none⟩ (.slice F2 l2f x2f)).setCell ⟨bo,3,none⟩ (.slice F3 l3f x3f)).setCell ⟨bo,4,none⟩ (.slice F4 l4f x4f)).heap.size = wB.heap.size:=size_set5
  obtain ⟨wC,hwC⟩:∃ wC,((((wB.setCell ⟨bo,0,none⟩ (.int .i64 kf)).setCell ⟨bo,1,none⟩ (.int .i64 nf)).setCell ⟨bo,2,none⟩ (.slice F2 l2f x2f)).setCell ⟨bo,3,none⟩ (.slice F3 l3f x3f)).setCell ⟨bo,4,none⟩ (.slice F4 l4f x4f) = wC:=⟨_,rfl⟩
  rw [hwC] at hsC hobC hbzC hszC
  rw [hwC]
  dsimp only [List.set] at hsC
  clear n0 n1 n2 n3 n4 nf9 hwC
  have HSC:=lH hsC
  have HOC:=lH hobC
  have HZC:=lH hbzC
  have HSZ:=lH hszC
  have n0:=cell_of_row wC bo 0 _ _ (0,0) hsC.tb
  have n2:=cell_of_row wC bo 2 _ _ (0,0) hsC.tb
  have nf9:=hsC.fr
  clear hsC hobC hbzC hszC
  go_upto_region 9 with fail
  have hsD:=(HSC.out.setT 0 (.int .i64 8)).setT 2 (.slice A' l' c')
  have hkD:∀ y,y ≠ bo → ((wC.setCell ⟨bo,0,none⟩ (.int .i64 8)).setCell ⟨bo,2,none⟩ (.slice A' l' c')).heap[y]? = wC.heap[y]?:=fun y hy=>(set_blk9 _ bo 2 y _ hy).trans (set_blk9 wC bo 0 y _ hy)
  have hszD:((wC.setCell ⟨bo,0,none⟩ (.int .i64 8)).setCell ⟨bo,2,none⟩ (.slice A' l' c')).heap.size = wC.heap.size:=by simp [World.setCell]
  obtain ⟨wD,hwD⟩:∃ wD,(wC.setCell ⟨bo,0,none⟩ (.int .i64 8)).setCell ⟨bo,2,none⟩ (.slice A' l' c') = wD:=⟨_,rfl⟩
  rw [hwD] at hsD hkD hszD
  rw [hwD]
  dsimp only [List.set] at hsD
  clear n0 n2 nf9 hwD
  have hlt:=HBO.out.1
  have hbzD:=HZC.out.keep (w':=wD) (S':=fun y=>(w.heap.size ≤ y ∧ y ≠ w.heap.size) ∧ y < wD.heap.size) (fun y hy=>hkD y (Nat.ne_of_gt hy.1)) (fun y hy=>⟨⟨by omega,by omega⟩,by rw [hszD,HSZ.out];exact hy.2⟩)
  have HF:=lH (RsB.fin hsD.rs (Nat.le_refl _) (ob_stm HOC.out (fun y hy=>hkD y (Nat.ne_of_gt hy.1)) (fun y hy=>⟨⟨by omega,by omega⟩,by rw [hszD,HSZ.out];exact hy.2⟩) hbzD) hsD.px hsD.on HLT.out.1 HLT.out.2.1 HLT.out.2.2)
  have o0:=cell_of_row wD bo 0 _ _ (0,0) hsD.tb
  have o1:=cell_of_row wD bo 1 _ _ (0,0) hsD.tb
  have o2:=cell_of_row wD bo 2 _ _ (0,0) hsD.tb
  have o3:=cell_of_row wD bo 3 _ _ (0,0) hsD.tb
  have o4:=cell_of_row wD bo 4 _ _ (0,0) hsD.tb
  obtain ⟨r0,r1,r2,r3,r4,r5⟩:=zero_cells hsD.rs
  clear hsD hkD hszD hlt hbzD
  go_wp2_with fail
  refine bodyPost_ret (results_cell_row_tmp rfl _ _ w.heap.size 27 _ (0,0) _ rfl HF.out.row Tryz.underlying27 rfl (by kernel_rfl) _ rfl) rfl ?_
  exact ⟨_,_,_,_,_,rfl,HF.out.ob,HF.out.px,HF.out.on⟩
 ·have hrr:RR = noR E2 Q2:=by rw [← HRR.out,if_pos h2]
  subst hrr
  have h2n:(E2 != 0) = true:=by rw [bne,beq_eq_false_iff_ne.2 h2];rfl
  clear h2
  go_wp2_with (first
   | (go_at_call 22;refine (pNone0 _).mono ?_;(rintro r wA ⟨rfl,hbA⟩);have HSA:=lH (HS9.out.low hbA);(obtain ⟨r0,r1,r2,r3,r4,r5⟩:=zero_cells HSA.out.rs);have HF:=lH (RsB.fin HSA.out.rs (Nat.le_refl _) (ob_nul _ _) HSA.out.px HSA.out.on HLT.out.1 HLT.out.2.1 HLT.out.2.2);clear hbA))
  refine bodyPost_ret (results_cell_row_tmp rfl _ _ w.heap.size 27 _ (0,0) _ rfl HF.out.row Tryz.underlying27 rfl (by kernel_rfl) _ rfl) rfl ?_
  exact ⟨_,_,_,_,_,rfl,HF.out.ob,HF.out.px,HF.out.on⟩
theorem bodyC {w:World} {m h g n c d p:Nat} {A:Option Addr} {zs:List Int} (f:Nat) (x:PX w m h g A n c d zs p) (hd:d ≤ 28) (hf:n - p < f) :
  Calls Tryz.prog 28 #[.pointer (some ⟨m,0,none⟩)] w (VaP m h g A n c d zs w (bodyT zs (parF zs f .val d p))):=by
 unfold bodyT
 by_cases hy:stmB zs (parF zs f .val d p) = true
 ·rw [if_pos hy];exact bodyStm f x hd hf hy
 ·rw [if_neg hy]
  refine bodyPlain f x hd hf ?_
  unfold stmB at hy
  by_cases h1:(parF zs f .val d p).e = 0
  ·by_cases h2:(parF zs f .val d p).x.kind = 7
   ·refine .inr (.inr ?_)
    rw [decide_eq_true h1,decide_eq_true h2] at hy
    simpa using hy
   ·exact .inr (.inl h2)
  ·exact .inl h1
end
section
open Go.RowKit
def RsI (b:Nat) (W:World):Prop:=W.heap[b]? = some (.cells #[.int .i64 0,.int .i64 0,.int .i64 0,.slice none 0 0,.slice none 0 0,.slice none 0 0] 34 (0,0))
abbrev set6 (W:World) (b:Nat) (x0 x1 x2 x3 x4 x5:Value):World:=(((((W.setCell ⟨b,0,none⟩ x0).setCell ⟨b,1,none⟩ x1).setCell ⟨b,2,none⟩ x2).setCell ⟨b,3,none⟩ x3).setCell ⟨b,4,none⟩ x4).setCell ⟨b,5,none⟩ x5
def ItmP (m h g:Nat) (A:Option Addr) (n c d:Nat) (zs:List Int) (w:World) (R:It13) (r:Ending) (w':World):Prop :=
 ∃ d0 d1 d2 d3 d4,r = .returned (.tuple #[.agg #[.int .i64 R.num,d0,d1,d2,d3,d4],.int .i64 R.r.e]) ∧ ObR w' (nwT w w') R.r.x d0 d1 d2 d3 d4 ∧ PX w' m h g A n c d zs R.r.q ∧ Only g w w'
structure FinI (m h g:Nat) (A:Option Addr) (n c d:Nat) (zs:List Int) (w W:World) (b:Nat) (x:Ob) (q:Nat) (v d0 d1 d2 d3 d4:Value):Prop where
 row:(set6 W b v d0 d1 d2 d3 d4).heap[b]? = some (.cells #[v,d0,d1,d2,d3,d4] 34 (0,0))
 ob:ObR (set6 W b v d0 d1 d2 d3 d4) (nwT w (set6 W b v d0 d1 d2 d3 d4)) x d0 d1 d2 d3 d4
 px:PX (set6 W b v d0 d1 d2 d3 d4) m h g A n c d zs q
 on:Only g w (set6 W b v d0 d1 d2 d3 d4)
section
variable {w W W':World} {m h g n c d q b:Nat} {A:Option Addr} {zs:List Int} {x:Ob} {v d0 d1 d2 d3 d4:Value}
theorem RsI.new (w:World):RsI w.heap.size (w.alloc (.cells #[.int .i64 0,.int .i64 0,.int .i64 0,.slice none 0 0,.slice none 0 0,.slice none 0 0] 34)):=heap_alloc_new w _
theorem RsI.lt (r:RsI b W):b < W.heap.size:=row_lt W _ _ r
theorem RsI.only (r:RsI b W) (ho:Only g W W') (hg:g < b):RsI b W':=(ho.block _ r.lt (Nat.ne_of_gt hg)).trans r
theorem RsI.low (r:RsI b W) (hb:Below W.heap.size W W'):RsI b W':=(hb.block _ r.lt).trans r
theorem RsI.cells (r:RsI b W):W.cell? ⟨b,0,none⟩ = some (.int .i64 0) ∧ W.cell? ⟨b,1,none⟩ = some (.int .i64 0) ∧ W.cell? ⟨b,2,none⟩ = some (.int .i64 0) ∧ W.cell? ⟨b,3,none⟩ = some (.slice none 0 0) ∧ W.cell? ⟨b,4,none⟩ = some (.slice none 0 0) ∧ W.cell? ⟨b,5,none⟩ = some (.slice none 0 0) ∧ (∀ i,W.frozen? ⟨b,i,none⟩ = false) :=
 ⟨by rw [cell_of_row W b 0 _ _ (0,0) r];rfl,by rw [cell_of_row W b 1 _ _ (0,0) r];rfl,by rw [cell_of_row W b 2 _ _ (0,0) r];rfl,by rw [cell_of_row W b 3 _ _ (0,0) r];rfl,by rw [cell_of_row W b 4 _ _ (0,0) r];rfl,by rw [cell_of_row W b 5 _ _ (0,0) r];rfl,fun i=>by have h:W.heap[b]? = _:=r;simp [World.frozen?,h]⟩
theorem size_set6':(set6 W b v d0 d1 d2 d3 d4).heap.size = W.heap.size:=by simp [World.setCell]
theorem RsI.fin (r:RsI b W) (hwb:w.heap.size ≤ b) (hx:ObR W (fun y=>(w.heap.size ≤ y ∧ y ≠ b) ∧ y < W.heap.size) x d0 d1 d2 d3 d4) (hp:PX W m h g A n c d zs q) (ho:Only g w W) (hl:m < w.heap.size ∧ h < w.heap.size ∧ g < w.heap.size):FinI m h g A n c d zs w W b x q v d0 d1 d2 d3 d4 :=
 have hm:m < b:=Nat.lt_of_lt_of_le hl.1 hwb
 have hh:h < b:=Nat.lt_of_lt_of_le hl.2.1 hwb
 have hg:g < b:=Nat.lt_of_lt_of_le hl.2.2 hwb
 ⟨set6_row r,ObR.keep (fun y hy=>heap_set6 hy.1.2) (fun y hy=>⟨hy.1.1,by rw [size_set6'];exact hy.2⟩) x hx,
  (((((hp.set1 hm hh hg 0 v).set1 hm hh hg 1 d0).set1 hm hh hg 2 d1).set1 hm hh hg 3 d2).set1 hm hh hg 4 d3).set1 hm hh hg 5 d4,
  (((((ho.setN hwb 0 v).setN hwb 1 d0).setN hwb 2 d1).setN hwb 3 d2).setN hwb 4 d3).setN hwb 5 d4⟩
end
set_option maxHeartbeats 4000000 in
theorem pItemC {w:World} {m h g n c d p:Nat} {A:Option Addr} {zs:List Int} (f:Nat) (x:PX w m h g A n c d zs p) (hd:d ≤ 28) (hf:n < f) :
  Calls Tryz.prog 11 #[.pointer (some ⟨m,0,none⟩)] w (ItmP m h g A n c d zs w (itemT zs f d p)):=by
 have hx0:=x.alloc (.cells #[.int .i64 0,.int .i64 0,.int .i64 0,.slice none 0 0,.slice none 0 0,.slice none 0 0] 34)
 have ho0:=(Only.refl g w).alloc (.cells #[.int .i64 0,.int .i64 0,.int .i64 0,.slice none 0 0,.slice none 0 0,.slice none 0 0] 34)
 have hr0:=RsI.new w
 obtain ⟨W0,hW0⟩:∃ W0,w.alloc (.cells #[.int .i64 0,.int .i64 0,.int .i64 0,.slice none 0 0,.slice none 0 0,.slice none 0 0] 34) = W0:=⟨_,rfl⟩
 rw [hW0] at hx0 ho0 hr0
 have HEM:=lH (emptyC hx0)
 have HHD:=lH (headC hx0)
 have HLT:Hid (m < w.heap.size ∧ h < w.heap.size ∧ g < w.heap.size):=lH ⟨x.lt,x.lx.lt,x.lx.cu.lt⟩
 have HO0:=lH ho0
 have HR0:=lH hr0
 have HW0:=lH hW0
 unfold itemT
 obtain ⟨H,hH⟩:∃ H,headT zs p = H:=⟨_,rfl⟩
 rw [hH] at HHD ⊢
 obtain ⟨N1,E1,Q1⟩:=H
 dsimp only at HHD ⊢
 have HBD:=lH (fun W (hW:PX W m h g A n c d zs Q1)=>bodyC f hW hd (by omega))
 obtain ⟨B,hB⟩:∃ B,bodyT zs (parF zs f .val d Q1) = B:=⟨_,rfl⟩
 rw [hB] at HBD ⊢
 obtain ⟨E2,X2,Q2⟩:=B
 dsimp only at HBD ⊢
 have HWD:=lH (fun W (hW:PX W m h g A n c d zs Q2)=>wordC hW strEnO)
 obtain ⟨T,hT⟩:∃ T,wrdT zs Q2 strEnO = T:=⟨_,rfl⟩
 rw [hT] at HWD ⊢
 obtain ⟨E3,Q3⟩:=T
 dsimp only at HWD ⊢
 clear hx0 ho0 hr0 hW0 x hH hB hT hd hf
 by_cases h1:E1 = 0
 ·subst h1
  rw [if_neg (fun h=>h rfl)]
  by_cases h2:E2 = 0
  ·subst h2
   rw [if_neg (fun h=>h rfl)]
   by_cases h3:E3 = 0
   ·subst h3
    rw [if_neg (fun h=>h rfl)]
    go_enter Tryz.func11,Tryz.ntmps11
    go_upto_region 1 with fail
    rw [HW0.out]
    go_upto_region 4 with (first
     | (go_at_call 26;refine HEM.out.mono ?_;(rintro r w1 ⟨rfl,rfl⟩))
     | (go_at_call 27;refine HHD.out.mono ?_;(rintro r w2 ⟨rfl,hx2,ho2⟩);have HX2:=lH hx2;have HO2:=lH (HO0.out.trans ho2);have HR2:=lH (HR0.out.only ho2 HLT.out.2.2);clear hx2 ho2))
    go_upto_region 7 with (first
     | (go_at_call 28;refine (HBD.out _ HX2.out).mono ?_;(rintro r w5 ⟨d0,d1,d2,d3,d4,hrr,hob,hx5,ho5⟩);(try dsimp only at hrr hob hx5);subst hrr;obtain ⟨k5,n5,A5,m5,e5,A6,m6,e6,A7,m7,e7,rfl,rfl,rfl,rfl,rfl⟩:=hob.shp;have HOB:=lH hob;have HX5:=lH hx5;have HO5:=lH ho5;clear hob hx5 ho5))
    have hb6:=(Below.refl w5.heap.size w5).alloc (Nat.le_refl _) (.cells #[.int .i64 k5,.int .i64 n5,.slice A5 m5 e5,.slice A6 m6 e6,.slice A7 m7 e7] 27)
    have hn6:=heap_alloc_new w5 (.cells #[.int .i64 k5,.int .i64 n5,.slice A5 m5 e5,.slice A6 m6 e6,.slice A7 m7 e7] 27)
    obtain ⟨w6,hw6⟩:∃ w6,w5.alloc (.cells #[.int .i64 k5,.int .i64 n5,.slice A5 m5 e5,.slice A6 m6 e6,.slice A7 m7 e7] 27) = w6:=⟨_,rfl⟩
    rw [hw6] at hb6 hn6
    rw [hw6]
    have HX6:=lH (HX5.out.low hb6)
    have HO6:=lH ((HO2.out.trans HO5.out).trans (Only.of_below hb6 g))
    have HOB6:=lH (ObR.keep (S':=fun y=>(w.heap.size ≤ y ∧ y ≠ w.heap.size) ∧ y < w5.heap.size) (fun y hy=>hb6.block y hy.2) (fun y hy=>⟨⟨by have:=HR2.out.lt;have:=hy.1;omega,by have:=HR2.out.lt;have:=hy.1;omega⟩,hy.2⟩) _ HOB.out)
    have HR6:=lH ((HR2.out.only HO5.out HLT.out.2.2).low hb6)
    have HN6:=lH hn6
    have HG5:Hid (w.heap.size < w5.heap.size):=lH (HR2.out.only HO5.out HLT.out.2.2).lt
    clear hb6 hn6 hw6
    go_upto_region 10 with (first
     | (go_at_call 29;refine (HWD.out _ HX6.out).mono ?_;(rintro r w7 ⟨rfl,hx7,ho7⟩);have HX7:=lH hx7;have HO7:=lH ho7;clear hx7 ho7))
    have HR7:=lH (HR6.out.only HO7.out HLT.out.2.2)
    have hn7:=(HO7.out.block _ (row_lt _ _ _ HN6.out) (by have:=HG5.out;have:=HLT.out.2.2;omega)).trans HN6.out
    have n0:=cell_of_row w7 w5.heap.size 0 _ _ (0,0) hn7
    have n1:=cell_of_row w7 w5.heap.size 1 _ _ (0,0) hn7
    have n2:=cell_of_row w7 w5.heap.size 2 _ _ (0,0) hn7
    have n3:=cell_of_row w7 w5.heap.size 3 _ _ (0,0) hn7
    have n4:=cell_of_row w7 w5.heap.size 4 _ _ (0,0) hn7
    have hob7:=ObR.keep (S':=fun y=>(w.heap.size ≤ y ∧ y ≠ w.heap.size) ∧ y < w7.heap.size) (fun y hy=>HO7.out.block y (Nat.lt_trans hy.2 (row_lt _ _ _ HN6.out)) (by have:=HLT.out.2.2;have:=hy.1;omega)) (fun y hy=>⟨hy.1,Nat.lt_of_lt_of_le (Nat.lt_trans hy.2 (row_lt _ _ _ HN6.out)) HO7.out.size⟩) _ HOB6.out
    have HF:=lH (RsI.fin (w:=w) (v:=.int .i64 N1) HR7.out (Nat.le_refl _) hob7 HX7.out (HO6.out.trans HO7.out) HLT.out)
    obtain ⟨r0,r1,r2,r3,r4,r5,r6⟩:=RsI.cells HR7.out
    clear hn7 hob7
    go_wp2_with fail
    refine bodyPost_ret (results_cell_row_tmp rfl _ _ w.heap.size 34 _ (0,0) _ rfl HF.out.row Tryz.underlying34 rfl (by kernel_rfl) _ rfl) rfl ?_
    exact ⟨_,_,_,_,_,rfl,HF.out.ob,HF.out.px,HF.out.on⟩
   ·rw [if_pos h3]
    have h3n:(E3 != 0) = true:=by rw [bne,beq_eq_false_iff_ne.2 h3];rfl
    clear h3
    go_enter Tryz.func11,Tryz.ntmps11
    go_upto_region 1 with fail
    rw [HW0.out]
    go_upto_region 4 with (first
     | (go_at_call 26;refine HEM.out.mono ?_;(rintro r w1 ⟨rfl,rfl⟩))
     | (go_at_call 27;refine HHD.out.mono ?_;(rintro r w2 ⟨rfl,hx2,ho2⟩);have HX2:=lH hx2;have HO2:=lH (HO0.out.trans ho2);have HR2:=lH (HR0.out.only ho2 HLT.out.2.2);clear hx2 ho2))
    go_upto_region 7 with (first
     | (go_at_call 28;refine (HBD.out _ HX2.out).mono ?_;(rintro r w5 ⟨d0,d1,d2,d3,d4,hrr,hob,hx5,ho5⟩);(try dsimp only at hrr hob hx5);subst hrr;obtain ⟨k5,n5,A5,m5,e5,A6,m6,e6,A7,m7,e7,rfl,rfl,rfl,rfl,rfl⟩:=hob.shp;have HOB:=lH hob;have HX5:=lH hx5;have HO5:=lH ho5;clear hob hx5 ho5))
    have hb6:=(Below.refl w5.heap.size w5).alloc (Nat.le_refl _) (.cells #[.int .i64 k5,.int .i64 n5,.slice A5 m5 e5,.slice A6 m6 e6,.slice A7 m7 e7] 27)
    have hn6:=heap_alloc_new w5 (.cells #[.int .i64 k5,.int .i64 n5,.slice A5 m5 e5,.slice A6 m6 e6,.slice A7 m7 e7] 27)
    obtain ⟨w6,hw6⟩:∃ w6,w5.alloc (.cells #[.int .i64 k5,.int .i64 n5,.slice A5 m5 e5,.slice A6 m6 e6,.slice A7 m7 e7] 27) = w6:=⟨_,rfl⟩
    rw [hw6] at hb6 hn6
    rw [hw6]
    have HX6:=lH (HX5.out.low hb6)
    have HO6:=lH ((HO2.out.trans HO5.out).trans (Only.of_below hb6 g))
    have HOB6:=lH (ObR.keep (S':=fun y=>(w.heap.size ≤ y ∧ y ≠ w.heap.size) ∧ y < w5.heap.size) (fun y hy=>hb6.block y hy.2) (fun y hy=>⟨⟨by have:=HR2.out.lt;have:=hy.1;omega,by have:=HR2.out.lt;have:=hy.1;omega⟩,hy.2⟩) _ HOB.out)
    have HR6:=lH ((HR2.out.only HO5.out HLT.out.2.2).low hb6)
    have HN6:=lH hn6
    have HG5:Hid (w.heap.size < w5.heap.size):=lH (HR2.out.only HO5.out HLT.out.2.2).lt
    clear hb6 hn6 hw6
    go_upto_region 10 with (first
     | (go_at_call 29;refine (HWD.out _ HX6.out).mono ?_;(rintro r w7 ⟨rfl,hx7,ho7⟩);have HX7:=lH hx7;have HO7:=lH ho7;clear hx7 ho7))
    have HR7:=lH (HR6.out.only HO7.out HLT.out.2.2)
    have HF:=lH (RsI.fin (w:=w) (v:=.int .i64 0) HR7.out (Nat.le_refl _) (ob_nul _ _) HX7.out (HO6.out.trans HO7.out) HLT.out)
    obtain ⟨r0,r1,r2,r3,r4,r5,r6⟩:=RsI.cells HR7.out
    go_wp2_with fail
    refine bodyPost_ret (results_cell_row_tmp rfl _ _ w.heap.size 34 _ (0,0) _ rfl HF.out.row Tryz.underlying34 rfl (by kernel_rfl) _ rfl) rfl ?_
    exact ⟨_,_,_,_,_,rfl,HF.out.ob,HF.out.px,HF.out.on⟩
  ·rw [if_pos h2]
   have h2n:(E2 != 0) = true:=by rw [bne,beq_eq_false_iff_ne.2 h2];rfl
   clear h2
   go_enter Tryz.func11,Tryz.ntmps11
   go_upto_region 1 with fail
   rw [HW0.out]
   go_upto_region 4 with (first
    | (go_at_call 26;refine HEM.out.mono ?_;(rintro r w1 ⟨rfl,rfl⟩))
    | (go_at_call 27;refine HHD.out.mono ?_;(rintro r w2 ⟨rfl,hx2,ho2⟩);have HX2:=lH hx2;have HO2:=lH (HO0.out.trans ho2);have HR2:=lH (HR0.out.only ho2 HLT.out.2.2);clear hx2 ho2))
   go_upto_region 7 with (first
    | (go_at_call 28;refine (HBD.out _ HX2.out).mono ?_;(rintro r w5 ⟨d0,d1,d2,d3,d4,hrr,hob,hx5,ho5⟩);(try dsimp only at hrr hob hx5);subst hrr;obtain ⟨k5,n5,A5,m5,e5,A6,m6,e6,A7,m7,e7,rfl,rfl,rfl,rfl,rfl⟩:=hob.shp;have HOB:=lH hob;have HX5:=lH hx5;have HO5:=lH ho5;clear hob hx5 ho5))
   have hb6:=(Below.refl w5.heap.size w5).alloc (Nat.le_refl _) (.cells #[.int .i64 k5,.int .i64 n5,.slice A5 m5 e5,.slice A6 m6 e6,.slice A7 m7 e7] 27)
   have hn6:=heap_alloc_new w5 (.cells #[.int .i64 k5,.int .i64 n5,.slice A5 m5 e5,.slice A6 m6 e6,.slice A7 m7 e7] 27)
   obtain ⟨w6,hw6⟩:∃ w6,w5.alloc (.cells #[.int .i64 k5,.int .i64 n5,.slice A5 m5 e5,.slice A6 m6 e6,.slice A7 m7 e7] 27) = w6:=⟨_,rfl⟩
   rw [hw6] at hb6 hn6
   rw [hw6]
   have HX6:=lH (HX5.out.low hb6)
   have HO6:=lH ((HO2.out.trans HO5.out).trans (Only.of_below hb6 g))
   have HOB6:=lH (ObR.keep (S':=fun y=>(w.heap.size ≤ y ∧ y ≠ w.heap.size) ∧ y < w5.heap.size) (fun y hy=>hb6.block y hy.2) (fun y hy=>⟨⟨by have:=HR2.out.lt;have:=hy.1;omega,by have:=HR2.out.lt;have:=hy.1;omega⟩,hy.2⟩) _ HOB.out)
   have HR6:=lH ((HR2.out.only HO5.out HLT.out.2.2).low hb6)
   have HN6:=lH hn6
   have HG5:Hid (w.heap.size < w5.heap.size):=lH (HR2.out.only HO5.out HLT.out.2.2).lt
   clear hb6 hn6 hw6
   have HF:=lH (RsI.fin (w:=w) (v:=.int .i64 0) HR6.out (Nat.le_refl _) (ob_nul _ _) HX6.out HO6.out HLT.out)
   obtain ⟨r0,r1,r2,r3,r4,r5,r6⟩:=RsI.cells HR6.out
   go_wp2_with fail
   refine bodyPost_ret (results_cell_row_tmp rfl _ _ w.heap.size 34 _ (0,0) _ rfl HF.out.row Tryz.underlying34 rfl (by kernel_rfl) _ rfl) rfl ?_
   exact ⟨_,_,_,_,_,rfl,HF.out.ob,HF.out.px,HF.out.on⟩
 ·rw [if_pos h1]
  have h1n:(E1 != 0) = true:=by rw [bne,beq_eq_false_iff_ne.2 h1];rfl
  clear h1
  go_enter Tryz.func11,Tryz.ntmps11
  go_upto_region 1 with fail
  rw [HW0.out]
  go_upto_region 4 with (first
   | (go_at_call 26;refine HEM.out.mono ?_;(rintro r w1 ⟨rfl,rfl⟩))
   | (go_at_call 27;refine HHD.out.mono ?_;(rintro r w2 ⟨rfl,hx2,ho2⟩);have HX2:=lH hx2;have HO2:=lH (HO0.out.trans ho2);have HR2:=lH (HR0.out.only ho2 HLT.out.2.2);clear hx2 ho2))
  have HF:=lH (RsI.fin (w:=w) (v:=.int .i64 0) HR2.out (Nat.le_refl _) (ob_nul _ _) HX2.out HO2.out HLT.out)
  obtain ⟨r0,r1,r2,r3,r4,r5,r6⟩:=RsI.cells HR2.out
  go_wp2_with fail
  refine bodyPost_ret (results_cell_row_tmp rfl _ _ w.heap.size 34 _ (0,0) _ rfl HF.out.row Tryz.underlying34 rfl (by kernel_rfl) _ rfl) rfl ?_
  exact ⟨_,_,_,_,_,rfl,HF.out.ob,HF.out.px,HF.out.on⟩
end
section
open Go.RowKit
def RimP (m:Nat) (A:Option Addr) (n c d:Nat) (zs:List Int) (w:World) (R:It13) (r:Ending) (w':World):Prop :=
 ∃ d0 d1 d2 d3 d4,r = .returned (.tuple #[.agg #[.int .i64 R.num,d0,d1,d2,d3,d4],.int .i64 R.r.e]) ∧ ObR w' (nwT w w') R.r.x d0 d1 d2 d3 d4 ∧ RX w' m A n c d zs R.r.q ∧ Only m w w'
structure FinJ (m:Nat) (A:Option Addr) (n c d:Nat) (zs:List Int) (w W:World) (b:Nat) (x:Ob) (q:Nat) (v d0 d1 d2 d3 d4:Value):Prop where
 row:(set6 W b v d0 d1 d2 d3 d4).heap[b]? = some (.cells #[v,d0,d1,d2,d3,d4] 34 (0,0))
 ob:ObR (set6 W b v d0 d1 d2 d3 d4) (nwT w (set6 W b v d0 d1 d2 d3 d4)) x d0 d1 d2 d3 d4
 px:RX (set6 W b v d0 d1 d2 d3 d4) m A n c d zs q
 on:Only m w (set6 W b v d0 d1 d2 d3 d4)
structure RiS (w W:World) (m:Nat) (A:Option Addr) (n c d:Nat) (zs:List Int) (q bo:Nat) (X:Ob) (t0 t1 t2 t3 t4:Value):Prop where
 px:RX W m A n c d zs q
 on:Only m w W
 rs:RsI w.heap.size W
 tb:W.heap[bo]? = some (.cells #[t0,t1,t2,t3,t4] 27 (0,0))
 ot:ObR W (fun y=>w.heap.size < y ∧ y ≠ bo ∧ y < W.heap.size) X t0 t1 t2 t3 t4
 lt:m < w.heap.size
 bb:w.heap.size < bo
section
variable {w W W':World} {m n c d q q' bo b:Nat} {A:Option Addr} {zs:List Int} {X Y:Ob} {v t0 t1 t2 t3 t4 d0 d1 d2 d3 d4:Value}
theorem RiS.only (s:RiS w W m A n c d zs q bo X t0 t1 t2 t3 t4) (hp:RX W' m A n c d zs q') (ho:Only m W W'):RiS w W' m A n c d zs q' bo X t0 t1 t2 t3 t4 :=
 have hm:=s.lt
 have hb:=s.bb
 ⟨hp,s.on.trans ho,s.rs.only ho s.lt,(ho.block _ (row_lt _ _ _ s.tb) (by omega)).trans s.tb,ObR.keep (fun y hy=>ho.block y hy.2.2 (by omega)) (fun y hy=>⟨hy.1,hy.2.1,Nat.lt_of_lt_of_le hy.2.2 ho.size⟩) _ s.ot,s.lt,s.bb⟩
theorem RiS.put (s:RiS w W m A n c d zs q bo X t0 t1 t2 t3 t4) (hp:RX W' m A n c d zs q') (ho:Only m W W') (hx:ObR W' (nwT W W') Y d0 d1 d2 d3 d4) :
  RiS w (((((W'.setCell ⟨bo,0,none⟩ d0).setCell ⟨bo,1,none⟩ d1).setCell ⟨bo,2,none⟩ d2).setCell ⟨bo,3,none⟩ d3).setCell ⟨bo,4,none⟩ d4) m A n c d zs q' bo Y d0 d1 d2 d3 d4 :=
 have hm:=s.lt
 have hb:=s.bb
 have hbw:=row_lt _ _ _ s.tb
 have hlt:=s.rs.lt
 ⟨hp.set5 (by omega),(s.on.trans ho).set5 (by omega),(heap_set5 (by omega)).trans (s.rs.only ho s.lt),set5_row ((ho.block _ hbw (by omega)).trans s.tb),ObR.keep (fun y hy=>heap_set5 (by have:=hy.1;omega)) (fun y hy=>⟨by have:=hy.1;omega,by have:=hy.1;omega,by rw [size_set5];exact hy.2⟩) _ hx,s.lt,s.bb⟩
theorem RiS.cells (s:RiS w W m A n c d zs q bo X t0 t1 t2 t3 t4):W.cell? ⟨bo,0,none⟩ = some t0 ∧ W.cell? ⟨bo,1,none⟩ = some t1 ∧ W.cell? ⟨bo,2,none⟩ = some t2 ∧ W.cell? ⟨bo,3,none⟩ = some t3 ∧ W.cell? ⟨bo,4,none⟩ = some t4 ∧ (∀ i,W.frozen? ⟨bo,i,none⟩ = false) :=
 ⟨by rw [cell_of_row W bo 0 _ _ (0,0) s.tb];rfl,by rw [cell_of_row W bo 1 _ _ (0,0) s.tb];rfl,by rw [cell_of_row W bo 2 _ _ (0,0) s.tb];rfl,by rw [cell_of_row W bo 3 _ _ (0,0) s.tb];rfl,by rw [cell_of_row W bo 4 _ _ (0,0) s.tb];rfl,fun i=>by have h:=s.tb;simp [World.frozen?,h]⟩
theorem RsI.finJ (r:RsI b W) (hwb:w.heap.size ≤ b) (hx:ObR W (fun y=>(w.heap.size ≤ y ∧ y ≠ b) ∧ y < W.heap.size) X d0 d1 d2 d3 d4) (hp:RX W m A n c d zs q) (ho:Only m w W) (hl:m < w.heap.size):FinJ m A n c d zs w W b X q v d0 d1 d2 d3 d4 :=
 have hm:m < b:=Nat.lt_of_lt_of_le hl hwb
 ⟨set6_row r,ObR.keep (fun y hy=>heap_set6 hy.1.2) (fun y hy=>⟨hy.1.1,by rw [size_set6'];exact hy.2⟩) X hx,
  (((((hp.set1 hm 0 v).set1 hm 1 d0).set1 hm 2 d1).set1 hm 3 d2).set1 hm 4 d3).set1 hm 5 d4,
  (((((ho.setN hwb 0 v).setN hwb 1 d0).setN hwb 2 d1).setN hwb 3 d2).setN hwb 4 d3).setN hwb 5 d4⟩
theorem RiS.nul (s:RiS w W m A n c d zs q bo X t0 t1 t2 t3 t4):FinJ m A n c d zs w W w.heap.size nulO q (.int .i64 0) (.int .i64 0) (.int .i64 0) (.slice none 0 0) (.slice none 0 0) (.slice none 0 0) :=
 s.rs.finJ (Nat.le_refl _) (ob_nul _ _) s.px s.on s.lt
theorem RiS.fin (s:RiS w W m A n c d zs q bo X t0 t1 t2 t3 t4) (v:Value):FinJ m A n c d zs w W w.heap.size X q v t0 t1 t2 t3 t4 :=
 s.rs.finJ (Nat.le_refl _) (ObR.keep (fun _ _=>rfl) (fun y hy=>⟨⟨Nat.le_of_lt hy.1,Nat.ne_of_gt hy.1⟩,hy.2.2⟩) _ s.ot) s.px s.on s.lt
end
theorem rkwC {w:World} {m n c d p:Nat} {A:Option Addr} {zs:List Int} (x:RX w m A n c d zs p) (s:ByteArray) (hs:s.size ≤ 900000) :
  Calls Tryz.prog 33 #[.pointer (some ⟨m,0,none⟩),.string s] w fun r w'=>r = .returned (.bool (kwB zs p s)) ∧ RX w' m A n c d zs (kwP zs p s) ∧ Only m w w' :=
 (rkeywordC m n c p m _ _ A zs s w x.ld x.bt (Nat.le_refl _) x.sm x.pl hs).mono fun _ _ ⟨he,hl,ho⟩=>⟨he,x.moved hl ho (by have:=kwP_le zs p s x.pz;rw [x.len] at this;exact this),ho⟩
set_option maxHeartbeats 8000000 in
theorem rItemC {w:World} {m n c d p:Nat} {A:Option Addr} {zs:List Int} (f:Nat) (x:RX w m A n c d zs p) (hd:d ≤ 28) (hf:n < f) :
  Calls Tryz.prog 13 #[.pointer (some ⟨m,0,none⟩)] w (RimP m A n c d zs w (itemT zs f d p)):=by
 have hx0:=x.alloc (.cells #[.int .i64 0,.int .i64 0,.int .i64 0,.slice none 0 0,.slice none 0 0,.slice none 0 0] 34)
 have ho0:=(Only.refl m w).alloc (.cells #[.int .i64 0,.int .i64 0,.int .i64 0,.slice none 0 0,.slice none 0 0,.slice none 0 0] 34)
 have hr0:=RsI.new w
 obtain ⟨W0,hW0⟩:∃ W0,w.alloc (.cells #[.int .i64 0,.int .i64 0,.int .i64 0,.slice none 0 0,.slice none 0 0,.slice none 0 0] 34) = W0:=⟨_,rfl⟩
 rw [hW0] at hx0 ho0 hr0
 have HN1:=lH (rWholeC hx0 1 8388607)
 have HMW:=lH x.lt
 have HO0:=lH ho0
 have HR0:=lH hr0
 have HW0:=lH hW0
 have hsm:=x.sm
 have hzl:=x.len
 unfold itemT headT
 obtain ⟨R1,hR1⟩:∃ R1,numT zs p 1 8388607 = R1:=⟨_,rfl⟩
 rw [hR1] at HN1 ⊢
 obtain ⟨V1,E1,Q1⟩:=R1
 dsimp only at HN1 ⊢
 have HN2:=lH (fun W (hW:RX W m A n c d zs Q1)=>rWholeC hW 0 0)
 obtain ⟨R2,hR2⟩:∃ R2,numT zs Q1 0 0 = R2:=⟨_,rfl⟩
 simp only [hR2] at HN2 ⊢
 obtain ⟨V2,E2,Q2⟩:=R2
 dsimp only at HN2 ⊢
 have HN3:=lH (fun W (hW:RX W m A n c d zs Q2)=>rWantC hW strObj)
 obtain ⟨R3,hR3⟩:∃ R3,wrdT zs Q2 strObj = R3:=⟨_,rfl⟩
 simp only [hR3] at HN3 ⊢
 obtain ⟨E3,Q3⟩:=R3
 dsimp only at HN3 ⊢
 have hq3:Q3 ≤ zs.length:=by
  have a1:=numT_le zs p 1 8388607 x.pz
  rw [hR1] at a1
  have a2:=numT_le zs Q1 0 0 a1
  rw [hR2] at a2
  have a3:=wrdT_le zs Q2 strObj a2
  rw [hR3] at a3
  exact a3
 clear hx0 ho0 hr0 hW0 x hR1 hR2 hR3
 by_cases h1:E1 = 0
 ·subst h1
  by_cases h2:E2 = 0
  ·subst h2
   by_cases h3:E3 = 0
   ·subst h3
    simp only [ne_eq,not_true_eq_false,if_false]
    have hg:=parF_g zs f .val d Q3 hq3 trivial
    have hk:=parF_ok zs (by omega) f .val d Q3 hq3 trivial
    have HVL:=lH (fun W (hW:RX W m A n c d zs Q3)=>rValueC f hW hd (by omega))
    obtain ⟨RV,hRV⟩:∃ RV,parF zs f .val d Q3 = RV:=⟨_,rfl⟩
    rw [hRV] at hg hk HVL ⊢
    obtain ⟨E4,X4,Q4⟩:=RV
    obtain ⟨RR,hRR⟩:∃ RR,finT zs V1 (bodyT zs ⟨E4,X4,Q4⟩) = RR:=⟨_,rfl⟩
    have hgo:(if ¬ (bodyT zs ⟨E4,X4,Q4⟩).e = 0 then (⟨0,noR (bodyT zs ⟨E4,X4,Q4⟩).e (bodyT zs ⟨E4,X4,Q4⟩).q⟩:It13) else if ¬ (wrdT zs (bodyT zs ⟨E4,X4,Q4⟩).q strEnO).1 = 0 then ⟨0,noR (wrdT zs (bodyT zs ⟨E4,X4,Q4⟩).q strEnO).1 (wrdT zs (bodyT zs ⟨E4,X4,Q4⟩).q strEnO).2⟩ else ⟨V1,⟨0,(bodyT zs ⟨E4,X4,Q4⟩).x,(wrdT zs (bodyT zs ⟨E4,X4,Q4⟩).q strEnO).2⟩⟩) = RR:=hRR
    rw [hgo]
    have HRR:=lH hRR
    have HKW:=lH (fun W (hW:RX W m A n c d zs Q4)=>rkwC hW strStm (by decide))
    have HWN:=lH (fun Q W (hW:RX W m A n c d zs Q)=>rWantC hW strEnO)
    have HES:=lH (fun Q W (hW:RX W m A n c d zs Q)=>rWantC hW strEnS)
    have HGG:=lH (And.intro hg hk)
    clear hRV hRR hgo hg hk
    go_enter Tryz.func13,Tryz.ntmps13
    go_upto_region 1 with fail
    rw [HW0.out]
    go_upto_region 3 with (first
     | (go_at_call 30;refine HN1.out.mono ?_;(rintro r w1 ⟨rfl,hx1,ho1⟩);have HX1:=lH hx1;have HO1:=lH (HO0.out.trans ho1);have HR1:=lH (HR0.out.only ho1 HMW.out);clear hx1 ho1))
    go_upto_region 5 with (first
     | (go_at_call 30;refine (HN2.out _ HX1.out).mono ?_;(rintro r w2 ⟨rfl,hx2,ho2⟩);have HX2:=lH hx2;have HO2:=lH (HO1.out.trans ho2);have HR2:=lH (HR1.out.only ho2 HMW.out);clear hx2 ho2))
    go_upto_region 7 with (first
     | (go_at_call 31;refine (HN3.out _ HX2.out).mono ?_;(rintro r w3 ⟨rfl,hx3,ho3⟩);have HXH:=lH hx3;have HOH:=lH (HO2.out.trans ho3);have HRH:=lH (HR2.out.only ho3 HMW.out);clear hx3 ho3))
    have hb6:=(Below.refl (World.heap w3).size w3).alloc (Nat.le_refl _) (.cells #[.int .i64 0,.int .i64 0,.slice none 0 0,.slice none 0 0,.slice none 0 0] 27)
    have hn6:=heap_alloc_new w3 (.cells #[.int .i64 0,.int .i64 0,.slice none 0 0,.slice none 0 0,.slice none 0 0] 27)
    obtain ⟨w6,hw6⟩:∃ w6,(w3).alloc (.cells #[.int .i64 0,.int .i64 0,.slice none 0 0,.slice none 0 0,.slice none 0 0] 27) = w6:=⟨_,rfl⟩
    rw [hw6] at hb6 hn6
    rw [hw6]
    have hs6:RiS w w6 m A n c d zs _ (World.heap w3).size nulO (.int .i64 0) (.int .i64 0) (.slice none 0 0) (.slice none 0 0) (.slice none 0 0):=⟨HXH.out.low hb6,HOH.out.trans (Only.of_below hb6 m),HRH.out.low hb6,hn6,ob_nul _ _,HMW.out,HRH.out.lt⟩
    obtain ⟨bo,hbo⟩:∃ bo,(World.heap w3).size = bo:=⟨_,rfl⟩
    rw [hbo] at hs6
    rw [hbo]
    have HS:=lH hs6
    clear hb6 hn6 hw6 hs6 hbo
    obtain ⟨z0,z1,z2,z3,z4,z5⟩:=HS.out.cells
    go_upto_region 9 with (first
     | (go_at_call 32;refine (HVL.out _ HS.out.px).mono ?_;(rintro r w5 ⟨d0,d1,d2,d3,d4,hrr,hob,hx5,ho5⟩);(try dsimp only at hrr hob hx5);subst hrr;obtain ⟨k5,n5,A5,m5,e5,A6,m6,e6,A7,m7,e7,rfl,rfl,rfl,rfl,rfl⟩:=hob.shp;have HKC:=lH (kind_c0 hob);have hsp:=HS.out.put hx5 ho5 hob;(obtain ⟨n0,n1,n2,n3,n4,n5'⟩:=(HS.out.only hx5 ho5).cells);clear hob hx5 ho5))
    have hkk:k5 = X4.kind:=by have hkc:=HKC.out;injection hkc
    obtain ⟨w9,hw9⟩:∃ w9,((((w5.setCell ⟨bo,0,none⟩ (.int .i64 k5)).setCell ⟨bo,1,none⟩ (.int .i64 n5)).setCell ⟨bo,2,none⟩ (.slice A5 m5 e5)).setCell ⟨bo,3,none⟩ (.slice A6 m6 e6)).setCell ⟨bo,4,none⟩ (.slice A7 m7 e7) = w9:=⟨_,rfl⟩
    rw [hw9] at hsp
    rw [hw9]
    clear HS z0 z1 z2 z3 z4 z5 n0 n1 n2 n3 n4 n5' HKC hw9 HN1 HN2 HN3 HX1 HX2 HO1 HO2 HR1 HR2 HXH HOH HRH HO0 HR0 HW0 HVL
    have HS:=lH hsp
    clear hsp
    obtain ⟨n0,n1,n2,n3,n4,nf⟩:=HS.out.cells
    by_cases h4:E4 = 0
    ·subst h4
     by_cases hk7:X4.kind = 7
     ·obtain ⟨kx,nx,bx,lx,dx⟩:=X4
      have hkx:kx = 7:=hk7
      subst hkx
      have hk5:k5 = 7:=hkk
      subst hk5
      by_cases hkw:kwB zs Q4 strStm = true
      ·have hok:=HGG.out.2
       have hdl:dx.len ≤ 90000000:=by
        have:=(g_parts HGG.out.1).2.2.2.2.1
        omega
       have hb:=body_yes zs ⟨0,.mk 7 nx bx lx dx,Q4⟩ (by unfold stmB;rw [hkw];rfl)
       have hkk2:=HKW.out
       rw [hkw] at hkk2
       obtain ⟨K,hK⟩:∃ K,kwP zs Q4 strStm = K:=⟨_,rfl⟩
       rw [hK] at hkk2
       have hb:bodyT zs ⟨0,.mk 7 nx bx lx dx,Q4⟩ = rstT zs (rdaT zs K (.mk 7 nx bx lx dx)):=by rw [hb];simp only [hK]
       have HKT:=lH hkk2
       have hdt:=fun W t0 t1 t2 t3 t4 (s:RiS w W m A n c d zs K bo (.mk 7 nx bx lx dx) t0 t1 t2 t3 t4)=>rdataC s.px nx bx lx dx _ t0 t1 t2 t3 t4 s.ot (fun y hy=>⟨hy.2.2,by have:=s.lt;omega⟩) hok hdl
       obtain ⟨RD,hRD⟩:∃ RD,rdaT zs K (.mk 7 nx bx lx dx) = RD:=⟨_,rfl⟩
       rw [hRD] at hdt hb
       obtain ⟨ED,XD,QD⟩:=RD
       have hrr:=HRR.out
       rw [hb] at hrr
       unfold rstT finT at hrr
       dsimp only at hrr
       have HRR2:=lH hrr
       have HDT:=lH hdt
       clear hok hdl hb hkk2 hK hdt hRD hrr HRR HKW HGG hkw hkk hk7
       go_upto_region 10 with (first
        | (go_at_call 33;refine (HKT.out _ HS.out.px).mono ?_;(rintro r wK ⟨rfl,hxK,hoK⟩);have hsK:=HS.out.only hxK hoK;clear HS;have HS:=lH hsK;clear hsK hxK hoK))
       clear n0 n1 n2 n3 n4 nf
       obtain ⟨n0,n1,n2,n3,n4,nf⟩:=HS.out.cells
       go_upto_region 11 with (first
        | (go_at_call 34;refine (HDT.out _ _ _ _ _ _ HS.out).mono ?_;(rintro r wL ⟨g0,g1,g2,g3,g4,hrr,hob,hxL,hoL⟩);(try dsimp only at hrr hob hxL);subst hrr;obtain ⟨kL,nL,AL,mL,eL,BL,lL,fL,CL,oL,hL,rfl,rfl,rfl,rfl,rfl⟩:=hob.shp;have hsp:=HS.out.put hxL hoL hob;clear n0 n1 n2 n3 n4 nf;(obtain ⟨n0,n1,n2,n3,n4,nf⟩:=(HS.out.only hxL hoL).cells);clear hob hxL hoL))
       obtain ⟨wM,hwM⟩:∃ wM,((((wL.setCell ⟨bo,0,none⟩ (.int .i64 kL)).setCell ⟨bo,1,none⟩ (.int .i64 nL)).setCell ⟨bo,2,none⟩ (.slice AL mL eL)).setCell ⟨bo,3,none⟩ (.slice BL lL fL)).setCell ⟨bo,4,none⟩ (.slice CL oL hL) = wM:=⟨_,rfl⟩
       rw [hwM] at hsp
       rw [hwM]
       clear HS n0 n1 n2 n3 n4 nf hwM HDT HKT
       have HS:=lH hsp
       clear hsp
       by_cases hED:ED = 0
       ·subst hED
        obtain ⟨W6,hW6⟩:∃ W6,wrdT zs QD strEnS = W6:=⟨_,rfl⟩
        have hw6:=HES.out QD
        have hrr:=HRR2.out
        rw [hW6] at hw6
        rw [hW6] at hrr
        obtain ⟨E6,Q6⟩:=W6
        dsimp only at hrr hw6
        have HW6:=lH hw6
        have HRR3:=lH hrr
        clear hW6 hw6 hrr
        go_upto_region 13 with (first
         | (go_at_call 31;refine (HW6.out _ HS.out.px).mono ?_;(rintro r wF ⟨rfl,hxF,hoF⟩);have hsF:=HS.out.only hxF hoF;clear HS;have HS:=lH hsF;clear hsF hxF hoF))
        by_cases h6:E6 = 0
        ·subst h6
         have hrr:=HRR3.out
         simp only [ne_eq,not_true_eq_false,if_false] at hrr
         obtain ⟨W8,hW8⟩:∃ W8,wrdT zs Q6 strEnO = W8:=⟨_,rfl⟩
         have hw8:=HWN.out Q6
         rw [hW8] at hw8
         rw [hW8] at hrr
         obtain ⟨E8,Q8⟩:=W8
         dsimp only at hrr hw8
         have HW8:=lH hw8
         clear hW8 hw8
         go_upto_region 15 with (first
          | (go_at_call 31;refine (HW8.out _ HS.out.px).mono ?_;(rintro r wF ⟨rfl,hxF,hoF⟩);have hsF:=HS.out.only hxF hoF;clear HS;have HS:=lH hsF;clear hsF hxF hoF))
         by_cases h8:E8 = 0
         ·subst h8
          simp only [not_true_eq_false,if_false] at hrr
          subst hrr
          have HF:=lH (RiS.fin HS.out (.int .i64 V1))
          obtain ⟨n0,n1,n2,n3,n4,nf⟩:=HS.out.cells
          obtain ⟨r0,r1,r2,r3,r4,r5,r6⟩:=RsI.cells HS.out.rs
          go_wp2_with fail
          refine bodyPost_ret (results_cell_row_tmp rfl _ _ w.heap.size 34 _ (0,0) _ rfl HF.out.row Tryz.underlying34 rfl (by kernel_rfl) _ rfl) rfl ?_
          exact ⟨_,_,_,_,_,rfl,HF.out.ob,HF.out.px,HF.out.on⟩
         ·rw [if_pos h8] at hrr
          subst hrr
          have e8n:(E8 != 0) = true:=by rw [bne,beq_eq_false_iff_ne.2 h8];rfl
          clear h8
          have HF:=lH (RiS.nul HS.out)
          obtain ⟨r0,r1,r2,r3,r4,r5,r6⟩:=RsI.cells HS.out.rs
          go_wp2_with fail
          refine bodyPost_ret (results_cell_row_tmp rfl _ _ w.heap.size 34 _ (0,0) _ rfl HF.out.row Tryz.underlying34 rfl (by kernel_rfl) _ rfl) rfl ?_
          exact ⟨_,_,_,_,_,rfl,HF.out.ob,HF.out.px,HF.out.on⟩
        ·have hrr:RR = ⟨0,noR E6 Q6⟩:=by
          have hrr:=HRR3.out
          simp only [ne_eq,not_true_eq_false,if_false,h6,not_false_eq_true,if_true,noR] at hrr
          rw [← hrr];rfl
         subst hrr
         have e6:(E6 == 0) = false:=beq_eq_false_iff_ne.2 h6
         have e6n:(E6 != 0) = true:=by rw [bne,e6];rfl
         clear h6
         have HF:=lH (RiS.nul HS.out)
         obtain ⟨r0,r1,r2,r3,r4,r5,r6⟩:=RsI.cells HS.out.rs
         go_wp2_with fail
         refine bodyPost_ret (results_cell_row_tmp rfl _ _ w.heap.size 34 _ (0,0) _ rfl HF.out.row Tryz.underlying34 rfl (by kernel_rfl) _ rfl) rfl ?_
         exact ⟨_,_,_,_,_,rfl,HF.out.ob,HF.out.px,HF.out.on⟩
       ·have hrr:RR = ⟨0,noR ED QD⟩:=by
         have hrr:=HRR2.out
         simp only [ne_eq,hED,not_false_eq_true,if_true,noR] at hrr
         rw [← hrr];rfl
        subst hrr
        have e6:(ED == 0) = false:=beq_eq_false_iff_ne.2 hED
        have e6n:(ED != 0) = true:=by rw [bne,e6];rfl
        clear hED
        have HF:=lH (RiS.nul HS.out)
        obtain ⟨r0,r1,r2,r3,r4,r5,r6⟩:=RsI.cells HS.out.rs
        go_wp2_with fail
        refine bodyPost_ret (results_cell_row_tmp rfl _ _ w.heap.size 34 _ (0,0) _ rfl HF.out.row Tryz.underlying34 rfl (by kernel_rfl) _ rfl) rfl ?_
        exact ⟨_,_,_,_,_,rfl,HF.out.ob,HF.out.px,HF.out.on⟩
      ·have hkw:kwB zs Q4 strStm = false:=by simpa using hkw
       have hb:bodyT zs ⟨0,.mk 7 nx bx lx dx,Q4⟩ = ⟨0,.mk 7 nx bx lx dx,Q4⟩:=body_no zs _ (by unfold stmB;rw [hkw];simp)
       have hkp:kwP zs Q4 strStm = Q4:=by unfold kwP;rw [if_neg (by rw [hkw];decide)]
       have hkk2:=HKW.out
       rw [hkw,hkp] at hkk2
       have HKT:=lH hkk2
       have hrr:=HRR.out
       rw [hb] at hrr
       unfold finT at hrr
       obtain ⟨W8,hW8⟩:∃ W8,wrdT zs Q4 strEnO = W8:=⟨_,rfl⟩
       have hw8:=HWN.out Q4
       rw [hW8] at hw8
       dsimp only at hrr
       rw [hW8] at hrr
       obtain ⟨E8,Q8⟩:=W8
       dsimp only at hrr hw8
       have HW8:=lH hw8
       clear hW8 hw8 hb hkp hkk2 hkw HKW hkk hk7
       go_upto_region 15 with (first
        | (go_at_call 33;refine (HKT.out _ HS.out.px).mono ?_;(rintro r wK ⟨rfl,hxK,hoK⟩);have hsK:=HS.out.only hxK hoK;clear HS;have HS:=lH hsK;clear hsK hxK hoK)
        | (go_at_call 31;refine (HW8.out _ HS.out.px).mono ?_;(rintro r wF ⟨rfl,hxF,hoF⟩);have hsF:=HS.out.only hxF hoF;clear HS;have HS:=lH hsF;clear hsF hxF hoF))
       clear n0 n1 n2 n3 n4 nf
       by_cases h8:E8 = 0
       ·subst h8
        rw [if_neg (fun h=>h rfl),if_neg (fun h=>h rfl)] at hrr
        subst hrr
        have HF:=lH (RiS.fin HS.out (.int .i64 V1))
        obtain ⟨n0,n1,n2,n3,n4,nf⟩:=HS.out.cells
        obtain ⟨r0,r1,r2,r3,r4,r5,r6⟩:=RsI.cells HS.out.rs
        go_wp2_with fail
        refine bodyPost_ret (results_cell_row_tmp rfl _ _ w.heap.size 34 _ (0,0) _ rfl HF.out.row Tryz.underlying34 rfl (by kernel_rfl) _ rfl) rfl ?_
        exact ⟨_,_,_,_,_,rfl,HF.out.ob,HF.out.px,HF.out.on⟩
       ·rw [if_neg (fun h=>h rfl),if_pos h8] at hrr
        subst hrr
        have e8n:(E8 != 0) = true:=by rw [bne,beq_eq_false_iff_ne.2 h8];rfl
        clear h8
        have HF:=lH (RiS.nul HS.out)
        obtain ⟨r0,r1,r2,r3,r4,r5,r6⟩:=RsI.cells HS.out.rs
        go_wp2_with fail
        refine bodyPost_ret (results_cell_row_tmp rfl _ _ w.heap.size 34 _ (0,0) _ rfl HF.out.row Tryz.underlying34 rfl (by kernel_rfl) _ rfl) rfl ?_
        exact ⟨_,_,_,_,_,rfl,HF.out.ob,HF.out.px,HF.out.on⟩
     ·have hb:bodyT zs ⟨0,X4,Q4⟩ = ⟨0,X4,Q4⟩:=body_no zs _ (by unfold stmB;simp only [decide_eq_false hk7];simp)
      have hrr:=HRR.out
      rw [hb] at hrr
      unfold finT at hrr
      have e7:(k5 == 7) = false:=beq_eq_false_iff_ne.2 (by rw [hkk];exact hk7)
      clear hb hkk hk7
      obtain ⟨W8,hW8⟩:∃ W8,wrdT zs Q4 strEnO = W8:=⟨_,rfl⟩
      have hw8:=HWN.out Q4
      rw [hW8] at hw8
      dsimp only at hrr
      rw [hW8] at hrr
      obtain ⟨E8,Q8⟩:=W8
      dsimp only at hrr hw8
      have HW8:=lH hw8
      clear hW8 hw8
      go_upto_region 15 with (first
       | (go_at_call 31;refine (HW8.out _ HS.out.px).mono ?_;(rintro r wF ⟨rfl,hxF,hoF⟩);have hsF:=HS.out.only hxF hoF;clear HS;have HS:=lH hsF;clear hsF hxF hoF))
      clear n0 n1 n2 n3 n4 nf e7
      by_cases h8:E8 = 0
      ·subst h8
       rw [if_neg (fun h=>h rfl),if_neg (fun h=>h rfl)] at hrr
       subst hrr
       have HF:=lH (RiS.fin HS.out (.int .i64 V1))
       obtain ⟨n0,n1,n2,n3,n4,nf⟩:=HS.out.cells
       obtain ⟨r0,r1,r2,r3,r4,r5,r6⟩:=RsI.cells HS.out.rs
       go_wp2_with fail
       refine bodyPost_ret (results_cell_row_tmp rfl _ _ w.heap.size 34 _ (0,0) _ rfl HF.out.row Tryz.underlying34 rfl (by kernel_rfl) _ rfl) rfl ?_
       exact ⟨_,_,_,_,_,rfl,HF.out.ob,HF.out.px,HF.out.on⟩
      ·rw [if_neg (fun h=>h rfl),if_pos h8] at hrr
       subst hrr
       have e8n:(E8 != 0) = true:=by rw [bne,beq_eq_false_iff_ne.2 h8];rfl
       clear h8
       have HF:=lH (RiS.nul HS.out)
       obtain ⟨r0,r1,r2,r3,r4,r5,r6⟩:=RsI.cells HS.out.rs
       go_wp2_with fail
       refine bodyPost_ret (results_cell_row_tmp rfl _ _ w.heap.size 34 _ (0,0) _ rfl HF.out.row Tryz.underlying34 rfl (by kernel_rfl) _ rfl) rfl ?_
       exact ⟨_,_,_,_,_,rfl,HF.out.ob,HF.out.px,HF.out.on⟩
    ·have hb:bodyT zs ⟨E4,X4,Q4⟩ = ⟨E4,X4,Q4⟩:=body_no zs _ (by unfold stmB;rw [decide_eq_false h4];rfl)
     have hrr:RR = ⟨0,noR E4 Q4⟩:=by rw [← HRR.out,hb];exact if_pos h4
     subst hrr
     have e4:(E4 == 0) = false:=beq_eq_false_iff_ne.2 h4
     have e4n:(E4 != 0) = true:=by rw [bne,e4];rfl
     clear h4 hb
     have HF:=lH (RiS.nul HS.out)
     obtain ⟨r0,r1,r2,r3,r4,r5,r6⟩:=RsI.cells HS.out.rs
     go_wp2_with fail
     refine bodyPost_ret (results_cell_row_tmp rfl _ _ w.heap.size 34 _ (0,0) _ rfl HF.out.row Tryz.underlying34 rfl (by kernel_rfl) _ rfl) rfl ?_
     exact ⟨_,_,_,_,_,rfl,HF.out.ob,HF.out.px,HF.out.on⟩
   ·have e3:(E3 == 0) = false:=beq_eq_false_iff_ne.2 h3
    have e3n:(E3 != 0) = true:=by rw [bne,e3];rfl
    simp only [ne_eq,not_true_eq_false,if_false,h3,not_false_eq_true,if_true]
    clear h3
    go_enter Tryz.func13,Tryz.ntmps13
    go_upto_region 1 with fail
    rw [HW0.out]
    go_upto_region 3 with (first
     | (go_at_call 30;refine HN1.out.mono ?_;(rintro r w1 ⟨rfl,hx1,ho1⟩);have HX1:=lH hx1;have HO1:=lH (HO0.out.trans ho1);have HR1:=lH (HR0.out.only ho1 HMW.out);clear hx1 ho1))
    go_upto_region 5 with (first
     | (go_at_call 30;refine (HN2.out _ HX1.out).mono ?_;(rintro r w2 ⟨rfl,hx2,ho2⟩);have HX2:=lH hx2;have HO2:=lH (HO1.out.trans ho2);have HR2:=lH (HR1.out.only ho2 HMW.out);clear hx2 ho2))
    go_upto_region 7 with (first
     | (go_at_call 31;refine (HN3.out _ HX2.out).mono ?_;(rintro r w3 ⟨rfl,hx3,ho3⟩);have HXH:=lH hx3;have HOH:=lH (HO2.out.trans ho3);have HRH:=lH (HR2.out.only ho3 HMW.out);clear hx3 ho3))
    have hb6:=(Below.refl (World.heap w3).size w3).alloc (Nat.le_refl _) (.cells #[.int .i64 0,.int .i64 0,.slice none 0 0,.slice none 0 0,.slice none 0 0] 27)
    have hn6:=heap_alloc_new w3 (.cells #[.int .i64 0,.int .i64 0,.slice none 0 0,.slice none 0 0,.slice none 0 0] 27)
    obtain ⟨w6,hw6⟩:∃ w6,(w3).alloc (.cells #[.int .i64 0,.int .i64 0,.slice none 0 0,.slice none 0 0,.slice none 0 0] 27) = w6:=⟨_,rfl⟩
    rw [hw6] at hb6 hn6
    rw [hw6]
    have hs6:RiS w w6 m A n c d zs _ (World.heap w3).size nulO (.int .i64 0) (.int .i64 0) (.slice none 0 0) (.slice none 0 0) (.slice none 0 0):=⟨HXH.out.low hb6,HOH.out.trans (Only.of_below hb6 m),HRH.out.low hb6,hn6,ob_nul _ _,HMW.out,HRH.out.lt⟩
    obtain ⟨bo,hbo⟩:∃ bo,(World.heap w3).size = bo:=⟨_,rfl⟩
    rw [hbo] at hs6
    rw [hbo]
    have HS:=lH hs6
    clear hb6 hn6 hw6 hs6 hbo
    have HF:=lH (RiS.nul HS.out)
    obtain ⟨r0,r1,r2,r3,r4,r5,r6⟩:=RsI.cells HS.out.rs
    go_wp2_with fail
    refine bodyPost_ret (results_cell_row_tmp rfl _ _ w.heap.size 34 _ (0,0) _ rfl HF.out.row Tryz.underlying34 rfl (by kernel_rfl) _ rfl) rfl ?_
    exact ⟨_,_,_,_,_,rfl,HF.out.ob,HF.out.px,HF.out.on⟩
  ·have e2:(E2 == 0) = false:=beq_eq_false_iff_ne.2 h2
   have e2n:(E2 != 0) = true:=by rw [bne,e2];rfl
   simp only [ne_eq,not_true_eq_false,if_false,h2,not_false_eq_true,if_true]
   clear h2
   go_enter Tryz.func13,Tryz.ntmps13
   go_upto_region 1 with fail
   rw [HW0.out]
   go_upto_region 3 with (first
    | (go_at_call 30;refine HN1.out.mono ?_;(rintro r w1 ⟨rfl,hx1,ho1⟩);have HX1:=lH hx1;have HO1:=lH (HO0.out.trans ho1);have HR1:=lH (HR0.out.only ho1 HMW.out);clear hx1 ho1))
   go_upto_region 7 with (first
    | (go_at_call 30;refine (HN2.out _ HX1.out).mono ?_;(rintro r w2 ⟨rfl,hx2,ho2⟩);have HXH:=lH hx2;have HOH:=lH (HO1.out.trans ho2);have HRH:=lH (HR1.out.only ho2 HMW.out);clear hx2 ho2))
   have hb6:=(Below.refl (World.heap w2).size w2).alloc (Nat.le_refl _) (.cells #[.int .i64 0,.int .i64 0,.slice none 0 0,.slice none 0 0,.slice none 0 0] 27)
   have hn6:=heap_alloc_new w2 (.cells #[.int .i64 0,.int .i64 0,.slice none 0 0,.slice none 0 0,.slice none 0 0] 27)
   obtain ⟨w6,hw6⟩:∃ w6,(w2).alloc (.cells #[.int .i64 0,.int .i64 0,.slice none 0 0,.slice none 0 0,.slice none 0 0] 27) = w6:=⟨_,rfl⟩
   rw [hw6] at hb6 hn6
   rw [hw6]
   have hs6:RiS w w6 m A n c d zs _ (World.heap w2).size nulO (.int .i64 0) (.int .i64 0) (.slice none 0 0) (.slice none 0 0) (.slice none 0 0):=⟨HXH.out.low hb6,HOH.out.trans (Only.of_below hb6 m),HRH.out.low hb6,hn6,ob_nul _ _,HMW.out,HRH.out.lt⟩
   obtain ⟨bo,hbo⟩:∃ bo,(World.heap w2).size = bo:=⟨_,rfl⟩
   rw [hbo] at hs6
   rw [hbo]
   have HS:=lH hs6
   clear hb6 hn6 hw6 hs6 hbo
   have HF:=lH (RiS.nul HS.out)
   obtain ⟨r0,r1,r2,r3,r4,r5,r6⟩:=RsI.cells HS.out.rs
   go_wp2_with fail
   refine bodyPost_ret (results_cell_row_tmp rfl _ _ w.heap.size 34 _ (0,0) _ rfl HF.out.row Tryz.underlying34 rfl (by kernel_rfl) _ rfl) rfl ?_
   exact ⟨_,_,_,_,_,rfl,HF.out.ob,HF.out.px,HF.out.on⟩
 ·have e1:(E1 == 0) = false:=beq_eq_false_iff_ne.2 h1
  have e1n:(E1 != 0) = true:=by rw [bne,e1];rfl
  simp only [ne_eq,h1,not_false_eq_true,if_true]
  clear h1
  go_enter Tryz.func13,Tryz.ntmps13
  go_upto_region 1 with fail
  rw [HW0.out]
  go_upto_region 7 with (first
   | (go_at_call 30;refine HN1.out.mono ?_;(rintro r w1 ⟨rfl,hx1,ho1⟩);have HXH:=lH hx1;have HOH:=lH (HO0.out.trans ho1);have HRH:=lH (HR0.out.only ho1 HMW.out);clear hx1 ho1))
  have hb6:=(Below.refl (World.heap w1).size w1).alloc (Nat.le_refl _) (.cells #[.int .i64 0,.int .i64 0,.slice none 0 0,.slice none 0 0,.slice none 0 0] 27)
  have hn6:=heap_alloc_new w1 (.cells #[.int .i64 0,.int .i64 0,.slice none 0 0,.slice none 0 0,.slice none 0 0] 27)
  obtain ⟨w6,hw6⟩:∃ w6,(w1).alloc (.cells #[.int .i64 0,.int .i64 0,.slice none 0 0,.slice none 0 0,.slice none 0 0] 27) = w6:=⟨_,rfl⟩
  rw [hw6] at hb6 hn6
  rw [hw6]
  have hs6:RiS w w6 m A n c d zs _ (World.heap w1).size nulO (.int .i64 0) (.int .i64 0) (.slice none 0 0) (.slice none 0 0) (.slice none 0 0):=⟨HXH.out.low hb6,HOH.out.trans (Only.of_below hb6 m),HRH.out.low hb6,hn6,ob_nul _ _,HMW.out,HRH.out.lt⟩
  obtain ⟨bo,hbo⟩:∃ bo,(World.heap w1).size = bo:=⟨_,rfl⟩
  rw [hbo] at hs6
  rw [hbo]
  have HS:=lH hs6
  clear hb6 hn6 hw6 hs6 hbo
  have HF:=lH (RiS.nul HS.out)
  obtain ⟨r0,r1,r2,r3,r4,r5,r6⟩:=RsI.cells HS.out.rs
  go_wp2_with fail
  refine bodyPost_ret (results_cell_row_tmp rfl _ _ w.heap.size 34 _ (0,0) _ rfl HF.out.row Tryz.underlying34 rfl (by kernel_rfl) _ rfl) rfl ?_
  exact ⟨_,_,_,_,_,rfl,HF.out.ob,HF.out.px,HF.out.on⟩
end
end Go.Proofs.YtpomkhcobpihmaaGreat
