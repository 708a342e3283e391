/- The project's own reader of blocks (package inflate): block, Blocks. -/
import Derived.Test.YtebbakfjjjamkaaDoorPTel
import Derived.Test.YtebbakfjjjamkaaDoorRef4BlkC
namespace Go.Proofs.YtebbakfjjjamkaaDoor
open Go.RowKit
set_option linter.unusedVariables false
set_option maxRecDepth 100000

/-- The fixed pair: none yet, or the two codes that are never told. -/
def FX (w : World) (ts : Nat → Prop) (fx : Value) : Prop := fx = .pointer none ∨ ∃ kp hl hd, fx = .pointer (some ⟨kp, 0, none⟩) ∧ w.heap[kp]? = some (.cells #[.pointer (some ⟨hl, 0, none⟩), .pointer (some ⟨hd, 0, none⟩)] 97 (0, 0)) ∧ CB w hl fixLs ∧ CB w hd fixDs ∧ ts kp ∧ ts hl ∧ ts hd
theorem FX.keeps {w w' : World} {ts : Nat → Prop} {fx : Value} (h : FX w ts fx) (hk : Keeps ts w w') : FX w' ts fx := by
  rcases h with h | ⟨kp, hl, hd, e, h1, h2, h3, t1, t2, t3⟩
  · exact .inl h
  · exact .inr ⟨kp, hl, hd, e, (hk.block kp t1).trans h1, h2.same (hk.block hl t2), h3.same (hk.block hd t3), t1, t2, t3⟩
/-- What a block leaves: the reader, and the pair. -/
def BlkPost (w : World) (kr kb kc : Nat) (ts : Nat → Prop) (A : Option Addr) (n c : Nat) (zs : List Int) (most : Nat) (p' : Nat) (e' : Int) (out' : List Int) (r : Ending) (w' : World) : Prop :=
  r = .returned (.int .i64 e') ∧ Keeps ts w w' ∧ (e' = 0 → ∃ (us : Nat → Prop) (v' fx' : Value), (∀ i, ts i → us i) ∧ RS w' kr kb kc us A n c zs p' v' out' most fx' ∧ FX w' us fx')
theorem RS.setFx {w : World} {kr kb kc n c p most : Nat} {A : Option Addr} {zs out : List Int} {v fx : Value} {ts : Nat → Prop} (h : RS w kr kb kc ts A n c zs p v out most fx) (u : Value) : RS (w.setCell ⟨kr, 3, none⟩ u) kr kb kc ts A n c zs p v out most u ∧ Keeps ts w (w.setCell ⟨kr, 3, none⟩ u) := by
  have hset : ∀ i, i ≠ kr → (w.setCell ⟨kr, 3, none⟩ u).heap[i]? = w.heap[i]? := fun i hi => Below.heap_setCell w ⟨kr, 3, none⟩ u i hi
  refine ⟨⟨h.pb.same (hset kb (fun e => h.rb e.symm)) (hset kc (fun e => h.rc e.symm)), ?_, h.rb, h.rc, h.row.same (fun b hb _ => hset b (h.own b hb).2.1), h.own, h.tr, h.tb', h.tc, fun i hi => by have := h.tb i hi; simpa [World.setCell] using this, h.lm⟩, ?_⟩
  · have := h.rd
    simp [World.setCell, Array.getElem?_modify, this]
  · exact ⟨rfl, rfl, rfl, by simp [World.setCell], fun i hi => hset i (fun e => h.tr (e ▸ hi))⟩
theorem Keeps.of_below {ts : Nat → Prop} {w w' : World} (h : Below w.heap.size w w') (hb : ∀ i, ts i → i < w.heap.size) : Keeps ts w w' := ⟨h.os, h.tape, h.output, h.size, fun i hi => h.block i (hb i hi)⟩
/-- What a block is, behind its first bit. -/
def blkS (zs : List Int) (most p : Nat) (out : List Int) : Nat × Int × List Int := if (takeS zs p 0 2).2.2 = 0 then kindS zs most (takeS zs p 0 2).2.1 (takeS zs p 0 2).1 out else ((takeS zs p 0 2).2.1, (takeS zs p 0 2).2.2, out)

theorem blk_lt {w : World} {k : Nat} {o : Obj} (h : w.heap[k]? = some o) : k < w.heap.size := by
  rcases Nat.lt_or_ge k w.heap.size with hlt | hge
  · exact hlt
  · rw [Array.getElem?_eq_none hge] at h; cases h
theorem fx_sub {w : World} {ts us : Nat → Prop} {fx : Value} (h : FX w ts fx) (hs : ∀ i, ts i → us i) : FX w us fx := by
  rcases h with h | ⟨kp, hl, hd, e, h1, h2, h3, t1, t2, t3⟩
  · exact .inl h
  · exact .inr ⟨kp, hl, hd, e, h1, h2, h3, hs _ t1, hs _ t2, hs _ t3⟩
theorem coded_fx {w W : World} {ts : Nat → Prop} {kp : Nat} {P : Prop} (h : ∀ W, Keeps ts w W → FX W ts (.pointer (some ⟨kp, 0, none⟩))) (hk : Keeps ts w W) (hc : ∀ hl hd, W.heap[kp]? = some (.cells #[.pointer (some ⟨hl, 0, none⟩), .pointer (some ⟨hd, 0, none⟩)] 97 (0, 0)) → ts kp → CB W hl fixLs → ts hl → CB W hd fixDs → ts hd → P) : P := by
  rcases h W hk with h | ⟨kp2, hl, hd, e, h1, h2, h3, t1, t2, t3⟩
  · cases h
  · cases e
    exact hc hl hd h1 t1 h2 t2 h3 t3
/-- Three blocks made since may be kept, too. -/
theorem RS.and3 {w : World} {kr kb kc n c p most N : Nat} {A : Option Addr} {zs out : List Int} {v fx : Value} {ts : Nat → Prop} (h : RS w kr kb kc ts A n c zs p v out most fx) (kp hl hd : Nat) (h1 : kr < N ∧ kb < N ∧ kc < N) (ho : ∀ b, v.ownBlock = some b → b < N) (g1 : N ≤ kp) (g2 : N ≤ hl) (g3 : N ≤ hd) (s1 : kp < w.heap.size) (s2 : hl < w.heap.size) (s3 : hd < w.heap.size) :
    RS w kr kb kc (fun i => ts i ∨ i = kp ∨ i = hl ∨ i = hd) A n c zs p v out most fx :=
  h.and _ (fun i hi => by
    rcases hi with hi | rfl | rfl | rfl
    · exact h.tb i hi
    · exact s1
    · exact s2
    · exact s3) fun i hi => by
    rcases hi with hi | hi
    · exact .inl hi
    · have hge : N ≤ i := by
        rcases hi with rfl | rfl | rfl
        · exact g1
        · exact g2
        · exact g3
      exact .inr ⟨by omega, by omega, by omega, fun e => by have := ho i e; omega⟩
theorem RS.lt3 {w : World} {kr kb kc n c p most : Nat} {A : Option Addr} {zs out : List Int} {v fx : Value} {ts : Nat → Prop} (h : RS w kr kb kc ts A n c zs p v out most fx) : kr < w.heap.size ∧ kb < w.heap.size ∧ kc < w.heap.size := ⟨h.lt, h.ltb, h.ltc⟩
theorem four_set {w : World} {k : Nat} {a b c d : Value} {t : TypeId} (h : w.heap[k]? = some (.cells #[a, b, c, d] t (0, 0))) : w.cell? ⟨k, 3, none⟩ = some d := by rw [cell_of_row w k 3 _ t (0, 0) h]; rfl

set_option maxHeartbeats 4000000 in
theorem pblock (kr kb kc n c p B most : Nat) (A : Option Addr) (v fx : Value) (out zs : List Int) (ts : Nat → Prop) (w : World) (h : RS w kr kb kc ts A n c zs p v out most fx) (hb : Byt w B A n c zs) (hB : ∀ i, i < B → ts i) (hn : n ≤ 1000000) (hm : most ≤ 100000000) (ho : Ord w) (hg : ts 0) (hfx : FX w ts fx)
    (p' : Nat) (e' : Int) (out' : List Int) (hs : blkS zs most p out = (p', e', out')) :
    Calls Tryd.prog 27 #[.pointer (some ⟨kr, 0, none⟩)] w (BlkPost w kr kb kc ts A n c zs most p' e' out') := by
  have H := Lib.hid h
  have hbl := h.ble hB
  have h0 := h.c0
  have HLEN := Lib.hid hb.len
  have HBB := Lib.hid hB
  have HG := Lib.hid hg
  have HBY := Lib.hid (fun W (hW : Keeps ts w W) => hb.keeps hW hB)
  have HFX := Lib.hid (fun W (hW : Keeps ts w W) => hfx.keeps hW)
  have HOR := Lib.hid (fun W (hW : Keeps ts w W) => ho.keeps hW hg)
  have HT := Lib.hid (ptakeC kb kc n c p B 2 A zs w h.pb hb hbl.1 hbl.2.1 hn)
  unfold blkS takeS at hs
  rw [if_pos rfl] at hs
  unfold BlkPost
  by_cases hf : ¬ p + 2 ≤ 8 * zs.length
  · rw [if_neg hf] at hs
    dsimp only at hs
    rw [if_neg (by decide)] at hs
    cases hs
    have v1 : ptakeV zs p 2 = -1 := by unfold ptakeV; rw [if_neg (by omega)]
    have p1 : ptakeP zs p 2 = p := by unfold ptakeP; rw [if_neg (by omega)]
    rw [v1, p1] at HT
    clear h hb hbl ho hg hfx v1 p1
    go_enter Tryd.func27, Tryd.ntmps27
    go_wp2_with (go_at_call 46; refine HT.out.mono ?_; rintro r w2 ⟨rfl, hb2, ho2⟩; have HO2 := Lib.hid (ho2.keeps H.out); clear hb2 ho2)
    go_ret
    exact ⟨rfl, HO2.out, fun h => absurd h (by decide)⟩
  have hf := Decidable.not_not.1 hf
  rw [if_pos hf] at hs
  dsimp only at hs
  rw [if_pos rfl] at hs
  have v1 : ptakeV zs p 2 = bitsZ zs p 2 := by unfold ptakeV; rw [if_pos ⟨by omega, by omega, by omega⟩]; rfl
  have p1 : ptakeP zs p 2 = p + 2 := by unfold ptakeP; rw [if_pos ⟨by omega, by omega, by omega⟩]; rfl
  rw [v1, p1] at HT
  have hkb := bitsZ_bd zs p 2
  have hk4 : bitsZ zs p 2 < 4 := hkb.2
  have hp2 : p + 2 ≤ 8 * n := by rw [← HLEN.out]; exact hf
  obtain ⟨kd, hkd⟩ : ∃ kd, bitsZ zs p 2 = kd := ⟨_, rfl⟩
  rw [hkd] at HT hs hkb hk4
  unfold kindS at hs
  rw [HLEN.out] at hs
  have HP2 := Lib.hid hp2
  have hkb0 := hkb.1
  clear h hb hbl ho hg hfx v1 p1 hkd hkb hf hp2
  by_cases k0 : kd = 0
  · subst k0
    rw [if_pos rfl] at hs
    have HST := Lib.hid (fun W (hW : Keeps ts w W) (hR : RS W kr kb kc ts A n c zs (p + 2) v out most fx) => pstored kr kb kc n c (p + 2) B most A v fx out zs ts W hR (HBY.out W hW) HBB.out hn hm HP2.out p' e' out' hs)
    clear hs
    go_enter Tryd.func27, Tryd.ntmps27
    go_wp2_with (first
      | (go_at_call 46; refine HT.out.mono ?_; rintro r w2 ⟨rfl, hb2, ho2⟩; have HK2 := Lib.hid (ho2.keeps H.out); have HR2 := Lib.hid (H.out.read ho2 hb2); clear hb2 ho2)
      | (go_at_call 47; refine (HST.out _ HK2.out HR2.out).mono ?_; rintro r w3 ⟨rfl, hk3, hr3⟩; have HK3 := Lib.hid (HK2.out.trans hk3); have HR3 := Lib.hid hr3; clear hk3 hr3))
    go_ret
    exact ⟨rfl, HK3.out, fun h => by
      obtain ⟨v', hv⟩ := HR3.out h
      exact ⟨ts, v', fx, fun i hi => hi, hv, HFX.out _ HK3.out⟩⟩
  rw [if_neg k0] at hs
  have k0b : (kd == 0) = false := beq_eq_false_iff_ne.2 k0
  by_cases k1 : kd = 1
  · subst k1
    rw [if_pos rfl] at hs
    have HCO := Lib.hid (fun W us (hW : Keeps ts w W) (fx2 : Value) (hR : RS W kr kb kc us A n c zs (p + 2) v out most fx2) (hus : ∀ i, i < B → us i) kp hl hd h1 t1 h2 t2 h3 t3 => pcoded kr kb kc n c (p + 2) B most kp hl hd A v fx2 out zs fixLs fixDs us W hR (HBY.out W hW) hus hn hm HP2.out h1 t1 h2 t2 h3 t3 p' e' out' hs)
    clear hs k0
    rcases HFX.out w (Keeps.refl _ _) with hfn | ⟨kp, hl, hd, hfe, _, _, _, _, _, _⟩
    · subst hfn
      go_enter Tryd.func27, Tryd.ntmps27
      go_wp2_with (first
        | (go_at_call 46; refine HT.out.mono ?_; rintro r w2 ⟨rfl, hb2, ho2⟩; have HK2 := Lib.hid (ho2.keeps H.out); have HR2 := Lib.hid (H.out.read ho2 hb2); have k3 := HR2.out.c3; clear hb2 ho2)
        | (go_at_call 48; refine (pfixedPair w2).mono ?_; rintro r w3 ⟨kp, hl, hd, rfl, hpr, hcl, hcd, hb3, g1, g2, g3⟩; have HR3 := Lib.hid (HR2.out.more hb3); have HK3 := Lib.hid (HK2.out.trans (Keeps.of_below hb3 HR2.out.tb)); have k4 := HR3.out.c3; have kf := HR3.out.fr 3; have hfx := HR3.out.setFx (.pointer (some ⟨kp, 0, none⟩)); have HK4 := Lib.hid (HK3.out.trans hfx.2); have hlt := HR2.out.lt3; have hne := fun i (hi : w2.heap.size ≤ i) => Below.heap_setCell w3 ⟨kr, 3, none⟩ (.pointer (some ⟨kp, 0, none⟩)) i (show i ≠ kr by omega); have hs1 : kp < (w3.setCell ⟨kr, 3, none⟩ (.pointer (some ⟨kp, 0, none⟩))).heap.size := (by have := blk_lt hpr; simpa [World.setCell] using this); have HR4 := Lib.hid (hfx.1.and3 kp hl hd hlt HR2.out.own_lt g1 g2 g3 hs1 (by simpa [World.setCell] using hcl.lt) (by simpa [World.setCell] using hcd.lt)); have HPR := Lib.hid ((hne kp g1).trans hpr); have HCL := Lib.hid (hcl.same (hne hl g2)); have HCD := Lib.hid (hcd.same (hne hd g3)); clear hpr hcl hcd hb3 hfx hlt hne hs1 g1 g2 g3)
        | (go_at_call 49; refine (HCO.out _ _ HK4.out _ HR4.out (fun i hi => .inl (HBB.out i hi)) kp hl hd HPR.out (.inr (.inl rfl)) HCL.out (.inr (.inr (.inl rfl))) HCD.out (.inr (.inr (.inr rfl)))).mono ?_; rintro r w5 ⟨rfl, hk5, hr5⟩; have HK5 := Lib.hid hk5; have HR5 := Lib.hid hr5; clear hk5 hr5))
      go_ret
      exact ⟨rfl, HK4.out.trans (HK5.out.sub fun i hi => .inl hi), fun h => by
        obtain ⟨v', hv⟩ := HR5.out h
        exact ⟨_, v', _, fun i hi => .inl hi, hv, .inr ⟨kp, hl, hd, rfl, (HK5.out.block kp (.inr (.inl rfl))).trans HPR.out, HCL.out.same (HK5.out.block hl (.inr (.inr (.inl rfl)))), HCD.out.same (HK5.out.block hd (.inr (.inr (.inr rfl)))), .inr (.inl rfl), .inr (.inr (.inl rfl)), .inr (.inr (.inr rfl))⟩⟩⟩
    · subst hfe
      go_enter Tryd.func27, Tryd.ntmps27
      go_wp2_with (first
        | (go_at_call 46; refine HT.out.mono ?_; rintro r w2 ⟨rfl, hb2, ho2⟩; have HK2 := Lib.hid (ho2.keeps H.out); have HR2 := Lib.hid (H.out.read ho2 hb2); have k3 := HR2.out.c3; clear hb2 ho2)
        | (go_at_call 49; refine (coded_fx HFX.out HK2.out fun hl2 hd2 hpr t1 hcl t2 hcd t3 => HCO.out _ ts HK2.out _ HR2.out HBB.out kp hl2 hd2 hpr t1 hcl t2 hcd t3).mono ?_; rintro r w5 ⟨rfl, hk5, hr5⟩; have HK5 := Lib.hid (HK2.out.trans hk5); have HR5 := Lib.hid hr5; clear hk5 hr5))
      go_ret
      exact ⟨rfl, HK5.out, fun h => by
        obtain ⟨v', hv⟩ := HR5.out h
        exact ⟨ts, v', _, fun i hi => hi, hv, HFX.out _ HK5.out⟩⟩
  rw [if_neg k1] at hs
  have k1b : (kd == 1) = false := beq_eq_false_iff_ne.2 k1
  by_cases k2 : kd = 2
  · subst k2
    rw [if_pos rfl] at hs
    obtain ⟨q, ed, l, d, hdy⟩ : ∃ a b c d, dynS zs (p + 2) = (a, b, c, d) := ⟨_, _, _, _, rfl⟩
    rw [hdy] at hs
    dsimp only at hs
    have HTO := Lib.hid (fun W (hW : Keeps ts w W) (hR : RS W kr kb kc ts A n c zs (p + 2) v out most fx) => ptold kr kb kc n c (p + 2) B most A v fx out zs ts W hR (HBY.out W hW) HBB.out hn (HOR.out W hW) HG.out q ed l d hdy)
    have hqb := dynS_p zs (p + 2) (by rw [HLEN.out]; exact HP2.out)
    rw [hdy, HLEN.out] at hqb
    dsimp only at hqb
    have HQB := Lib.hid hqb.1
    clear hdy k0 k1 hqb
    by_cases hed : ¬ ed = 0
    · rw [if_neg hed] at hs
      have hz : (ed == 0) = false := beq_eq_false_iff_ne.2 hed
      have HE := Lib.hid hed
      cases hs
      clear hed
      go_enter Tryd.func27, Tryd.ntmps27
      go_wp2_with (first
        | (go_at_call 46; refine HT.out.mono ?_; rintro r w2 ⟨rfl, hb2, ho2⟩; have HK2 := Lib.hid (ho2.keeps H.out); have HR2 := Lib.hid (H.out.read ho2 hb2); clear hb2 ho2)
        | (go_at_call 50; refine (HTO.out _ HK2.out HR2.out).mono ?_; rintro r w3 ⟨ho3, hor⟩; rcases hor with hor | hor; exact absurd hor.1 HE.out; obtain ⟨_, rfl⟩ := hor; have HK3 := Lib.hid (HK2.out.trans (ho3.keeps HR2.out)); clear ho3))
      go_ret
      exact ⟨rfl, HK3.out, fun h => absurd h HE.out⟩
    · have hed := Decidable.not_not.1 hed
      subst hed
      rw [if_pos rfl] at hs
      have HTO0 : Hid (∀ W, Keeps ts w W → RS W kr kb kc ts A n c zs (p + 2) v out most fx → Calls Tryd.prog 50 #[.pointer (some ⟨kr, 0, none⟩)] W fun r w' => ∃ kp hl hd, r = .returned (.tuple #[.pointer (some ⟨kp, 0, none⟩), .int .i64 0]) ∧ Only2 kb kc W w' ∧ w'.heap[kp]? = some (.cells #[.pointer (some ⟨hl, 0, none⟩), .pointer (some ⟨hd, 0, none⟩)] 97 (0, 0)) ∧ CB w' hl l ∧ CB w' hd d ∧ W.heap.size ≤ kp ∧ W.heap.size ≤ hl ∧ W.heap.size ≤ hd ∧ PB w' kb kc A n c zs q) := Lib.hid fun W h1 h2 => (HTO.out W h1 h2).mono fun r w' h => by
        rcases h with ⟨g1, ⟨_, kp, hl, hd, g2, g3⟩ | ⟨g2, _⟩⟩
        · exact ⟨kp, hl, hd, g2, g1, g3⟩
        · exact absurd rfl g2
      have HCO := Lib.hid (fun W us (hW : Keeps ts w W) (fx2 : Value) (hR : RS W kr kb kc us A n c zs q v out most fx2) (hus : ∀ i, i < B → us i) kp hl hd h1 t1 h2 t2 h3 t3 => pcoded kr kb kc n c q B most kp hl hd A v fx2 out zs l d us W hR (HBY.out W hW) hus hn hm HQB.out h1 t1 h2 t2 h3 t3 p' e' out' hs)
      clear hs HTO
      go_enter Tryd.func27, Tryd.ntmps27
      go_wp2_with (first
        | (go_at_call 46; refine HT.out.mono ?_; rintro r w2 ⟨rfl, hb2, ho2⟩; have HK2 := Lib.hid (ho2.keeps H.out); have HR2 := Lib.hid (H.out.read ho2 hb2); clear hb2 ho2)
        | (go_at_call 50; refine (HTO0.out _ HK2.out HR2.out).mono ?_; rintro r w3 ⟨kp, hl, hd, rfl, ho3, hpr, hcl, hcd, g1, g2, g3, hpb⟩; have HK3 := Lib.hid (HK2.out.trans (ho3.keeps HR2.out)); have HR3 := Lib.hid ((HR2.out.read ho3 hpb).and3 kp hl hd HR2.out.lt3 HR2.out.own_lt g1 g2 g3 (blk_lt hpr) hcl.lt hcd.lt); have HPR := Lib.hid hpr; have HCL := Lib.hid hcl; have HCD := Lib.hid hcd; clear ho3 hpr hcl hcd g1 g2 g3 hpb)
        | (go_at_call 49; refine (HCO.out _ _ HK3.out _ HR3.out (fun i hi => .inl (HBB.out i hi)) kp hl hd HPR.out (.inr (.inl rfl)) HCL.out (.inr (.inr (.inl rfl))) HCD.out (.inr (.inr (.inr rfl)))).mono ?_; rintro r w5 ⟨rfl, hk5, hr5⟩; have HK5 := Lib.hid hk5; have HR5 := Lib.hid hr5; clear hk5 hr5))
      go_ret
      exact ⟨rfl, HK3.out.trans (HK5.out.sub fun i hi => .inl hi), fun h => by
        obtain ⟨v', hv⟩ := HR5.out h
        exact ⟨_, v', _, fun i hi => .inl hi, hv, fx_sub (HFX.out _ (HK3.out.trans (HK5.out.sub fun i hi => .inl hi))) (fun i hi => .inl hi)⟩⟩
  · rw [if_neg k2] at hs
    cases hs
    have k2b : (kd == 2) = false := beq_eq_false_iff_ne.2 k2
    have km : (kd == -1) = false := beq_eq_false_iff_ne.2 (by omega)
    clear k0 k1 k2
    go_enter Tryd.func27, Tryd.ntmps27
    go_wp2_with (go_at_call 46; refine HT.out.mono ?_; rintro r w2 ⟨rfl, hb2, ho2⟩; have HK2 := Lib.hid (ho2.keeps H.out); clear hb2 ho2)
    go_ret
    exact ⟨rfl, HK2.out, fun h => absurd h (by decide)⟩
end Go.Proofs.YtebbakfjjjamkaaDoor
