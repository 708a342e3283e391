/- The project's own reader of blocks (package inflate): put, again. -/
import Derived.Test.YtebbakfjjjamkaaDoorPRead
import Derived.Deep.RegionLaw
import Derived.BigRegion
namespace Go.Proofs.YtebbakfjjjamkaaDoor
open Go.RowKit
set_option linter.unusedVariables false
set_option maxRecDepth 100000

/-- An append whose run is known, as one step of a region that draws. -/
theorem step_append_run {P : Program} {ops : Array Oper} {o : Oper} {a : Act} {w w' : World} {K : Act → World → Prop} {Q : Exit → Act → World → Prop} {E : Prop} {v : Value}
    (hg : o.guard = none) (s x : Operand) (t : TypeId) (hop : o.op = Op.call { callee := Callee.builtin Builtin.append, args := #[s, x], argTypes := #[t, t] }) (vs vx : Value) (hs : a.eval s = vs) (hx : a.eval x = vx)
    (hrun : (Builtin.append_ #[t, t] o.type #[vs, vx]).run P w = .ok v w') (hK : K (a.put o.dst v) w') :
    if Region.wanted o (yielded ops a.tmps) = true then Oper.wp P o a w K Q else E := by
  have hw : Region.wanted o (yielded ops a.tmps) = true := by simp [Region.wanted, hg]
  rw [if_pos hw]
  unfold Oper.wp
  simp [execOp, hop, resolve, invoke, builtin, hs, hx, hrun, Result.andThen]
  exact hK
theorem pput_no (kr kb kc n c p most : Nat) (z : Int) (A : Option Addr) (v fx : Value) (out zs : List Int) (ts : Nat → Prop) (w : World) (h : RS w kr kb kc ts A n c zs p v out most fx) (ho : out.length = most) :
    Calls Tryd.prog 59 #[.pointer (some ⟨kr, 0, none⟩), .int .i64 z] w fun r w' => r = .returned (.int .i64 7) ∧ ∃ k, w' = w.drewN k := by
  have h1 := h.c1
  have h2 := h.c2
  have he : ((out.length : Int) == most) = true := beq_iff_eq.2 (by omega)
  obtain ⟨A2, c2, hv, _⟩ := h.row.byt
  subst hv
  rw [ho] at *
  clear h he
  go_enter Tryd.func59, Tryd.ntmps59
  go_wp2_with fail
  go_quiet (fail)
  go_wp2_with fail
  go_ret
  exact ⟨rfl, _, rfl⟩

theorem pput_ok (kr kb kc n c p most : Nat) (z : Int) (A : Option Addr) (v fx : Value) (out zs : List Int) (ts : Nat → Prop) (w : World) (h : RS w kr kb kc ts A n c zs p v out most fx) (ho : ¬ out.length = most) (hz : 0 ≤ z ∧ z < 256) (hm : most ≤ 100000000) :
    Calls Tryd.prog 59 #[.pointer (some ⟨kr, 0, none⟩), .int .i64 z] w fun r w' => r = .returned (.int .i64 0) ∧ ∃ v', RS w' kr kb kc ts A n c zs p v' (out ++ [z]) most fx ∧ Keeps ts w w' := by
  have H := Lib.hid h
  have h1 := h.c1
  have h2 := h.c2
  have hf := h.fr 1
  have hlm := h.lm
  have he : ((out.length : Int) == most) = false := beq_eq_false_iff_ne.2 (by omega)
  obtain ⟨A2, c2, hv, _⟩ := h.row.byt
  subst hv
  have hzz : IntKind.u8.wrap z = z := by rw [IntKind.wrap_u8]; omega
  have HAP := Lib.hid (fun nq => (H.out.row.drewN nq).append1 z hz 22 (by omega))
  clear h
  go_enter Tryd.func59, Tryd.ntmps59
  go_wp2_with fail
  go_quiet (fail)
  go_wp2_with (first
    | (at_builtin; obtain ⟨v6, w6, hrun, hmi6, hbl6, hos6, htp6, hou6, hsz6, hwn6⟩ := HAP.out nq; obtain ⟨A6, c6, rfl, _⟩ := hmi6.byt; refine Lib.wpList_append_run_sl _ rfl (.tmp 19) (.tmp 22) 22 rfl _ _ rfl rfl hrun ?_; clear hrun; have hf6 : w6.frozen? ⟨kr, 1, none⟩ = false := (World.frozen?_of_block (hbl6 kr H.out.lt (fun e => (H.out.own kr e).2.1 rfl))).trans hf; have hk6 : w6.cell? ⟨kr, 1, none⟩ = _ := (World.cell?_of_block (hbl6 kr H.out.lt (fun e => (H.out.own kr e).2.1 rfl))).trans h1; have HB6 := Lib.hid hbl6; have HM6 := Lib.hid hmi6; have HX6 := Lib.hid (And.intro hos6 (And.intro htp6 (And.intro hou6 (And.intro hsz6 hwn6)))); clear hbl6 hmi6 hos6 htp6 hou6 hsz6 hwn6))
  go_ret
  obtain ⟨h1, h2, h3, h4, h5⟩ := HX6.out
  have hend := (H.out.drewN nq).grown (out6 := out ++ [z]) (by rw [List.length_append]; exact HM6.out) HB6.out h1 h2 h3 h4 h5 (by simp; omega)
  exact ⟨rfl, _, hend.1, ((Keeps.refl _ _).drewN nq).trans hend.2⟩

/-- So many bytes, each from so far behind. -/
def copyL (back : Nat) : Nat → List Int → List Int
  | 0, out => out
  | k + 1, out => copyL back k (out ++ [out.getD (out.length - back) 0])
theorem copyR_all (most back : Nat) : ∀ (k : Nat) (out : List Int), out.length + k ≤ most → copyR most back k 0 out = (0, copyL back k out)
  | 0, out, _ => rfl
  | k + 1, out, h => by
    rw [copyR, if_pos rfl]
    have e1 : putE most out 0 = 0 := by unfold putE; rw [if_neg (by omega)]
    have e2 : ∀ z, putO most out 0 z = out ++ [z] := fun z => by unfold putO; rw [if_pos ⟨rfl, by omega⟩]
    rw [e1, e2, copyR_all most back k _ (by simp; omega)]
    rfl
theorem copyR_over (most back : Nat) : ∀ (k : Nat) (out : List Int), out.length ≤ most → most < out.length + k → (copyR most back k 0 out).1 = 7
  | 0, out, h0, h => by omega
  | k + 1, out, h0, h => by
    rw [copyR, if_pos rfl]
    by_cases he : out.length < most
    · have e1 : putE most out 0 = 0 := by unfold putE; rw [if_neg (by omega)]
      have e2 : ∀ z, putO most out 0 z = out ++ [z] := fun z => by unfold putO; rw [if_pos ⟨rfl, by omega⟩]
      rw [e1, e2]
      exact copyR_over most back k _ (by simp; omega) (by simp; omega)
    · have e1 : putE most out 0 = 7 := by unfold putE; rw [if_pos ⟨rfl, by omega⟩]
      rw [e1, copyR_bad _ _ _ _ _ (by decide)]
theorem copyL_len (back : Nat) : ∀ (k : Nat) (out : List Int), (copyL back k out).length = out.length + k
  | 0, out => rfl
  | k + 1, out => by rw [copyL, copyL_len back k]; simp; omega

/-- What again answers: where the reader stands then, its error, what came. -/
def againS (zs d : List Int) (most p i : Nat) (out : List Int) : Nat × Int × List Int :=
  if ¬ (plenS zs p i).2.2 = 0 then ((plenS zs p i).2.1, (plenS zs p i).2.2, out)
  else if ¬ (pdisS zs d (plenS zs p i).2.1).2.2 = 0 then ((pdisS zs d (plenS zs p i).2.1).2.1, (pdisS zs d (plenS zs p i).2.1).2.2, out)
  else if (out.length : Int) < (pdisS zs d (plenS zs p i).2.1).1 then ((pdisS zs d (plenS zs p i).2.1).2.1, 4, out)
  else if (most : Int) - out.length < (plenS zs p i).1 then ((pdisS zs d (plenS zs p i).2.1).2.1, 7, out)
  else ((pdisS zs d (plenS zs p i).2.1).2.1, 0, copyL (pdisS zs d (plenS zs p i).2.1).1.toNat (plenS zs p i).1.toNat out)
theorem numS_v (zs : List Int) (p : Nat) (least : Int) (m : Nat) (h : 0 ≤ least) (hm : m ≤ 16) : 0 ≤ (numS zs p least m).1 ∧ (numS zs p least m).1 ≤ least + 65536 := by
  have hb := bitsZ_bd zs p m
  have hp := pow_le16 m hm
  unfold numS
  split
  · dsimp only; omega
  · dsimp only; omega
theorem plenS_v (zs : List Int) (p i : Nat) : 0 ≤ (plenS zs p i).1 ∧ (plenS zs p i).1 ≤ 70000 := by
  unfold plenS
  split
  · dsimp only; omega
  · split
    · rename_i h8 h28
      have hbd := plenB ⟨i, h28⟩ (show 8 ≤ i by omega)
      dsimp only at hbd
      have h2 := numS_v zs p (3 + (4 + (i : Int) % 4) * 2 ^ (i / 4 - 1)) (i / 4 - 1) (by omega) (by omega)
      omega
    · split
      · dsimp only; omega
      · dsimp only; omega
theorem pdisS_v (zs d : List Int) (p : Nat) (he : (pdisS zs d p).2.2 = 0) : 1 ≤ (pdisS zs d p).1 ∧ (pdisS zs d p).1 ≤ 110000 := by
  unfold pdisS at he ⊢
  split at he
  · rename_i h
    exact absurd he h
  · rename_i h
    rw [if_neg h]
    unfold pdisT at he ⊢
    split at he
    · rename_i h4
      rw [if_pos h4]; dsimp only; omega
    · rename_i h4
      rw [if_neg h4]
      split at he
      · rename_i h30
        rw [if_pos h30]
        have hbd := pdisB ⟨(symR zs d (codesS d) 15 1 0 p).1.toNat, h30⟩ (show 4 ≤ (symR zs d (codesS d) 15 1 0 p).1.toNat by omega)
        dsimp only at hbd
        unfold numS at he ⊢
        split at he
        · rename_i hl
          rw [if_pos hl]
          have hb := bitsZ_bd zs (symR zs d (codesS d) 15 1 0 p).2.1 ((symR zs d (codesS d) 15 1 0 p).1.toNat / 2 - 1)
          have hp := pow_le16 ((symR zs d (codesS d) 15 1 0 p).1.toNat / 2 - 1) (by omega)
          dsimp only; omega
        · cases he
      · cases he

set_option maxHeartbeats 2000000 in
theorem pagain (kr kb kc n c p B most hd i : Nat) (A : Option Addr) (v fx : Value) (out zs d : List Int) (ts : Nat → Prop) (w : World) (h : RS w kr kb kc ts A n c zs p v out most fx) (hb : Byt w B A n c zs) (hB : ∀ i, i < B → ts i) (hn : n ≤ 1000000) (hm : most ≤ 100000000) (hi : i ≤ 100) (hcb : CB w hd d) (htd : ts hd)
    (p' : Nat) (e' : Int) (out' : List Int) (hs : againS zs d most p i out = (p', e', out')) :
    Calls Tryd.prog 64 #[.pointer (some ⟨kr, 0, none⟩), .int .i64 i, .pointer (some ⟨hd, 0, none⟩)] w fun r w' => r = .returned (.int .i64 e') ∧ Keeps ts w w' ∧ (e' = 0 → ∃ v', RS w' kr kb kc ts A n c zs p' v' out' most fx) := by
  have H := Lib.hid h
  have hbl := h.ble hB
  have HBY := Lib.hid (fun W (hW : Only2 kb kc w W) => hb.only2 hW hbl.1 hbl.2.1 hbl.2.2.2)
  have h1 : hd ≠ kb := fun e => h.tb' (e ▸ htd)
  have h2 : hd ≠ kc := fun e => h.tc (e ▸ htd)
  have HCB := Lib.hid (fun W (hW : Only2 kb kc w W) => hcb.same (hW.block hd hcb.lt h1 h2))
  have HBB := Lib.hid hB
  have HTD := Lib.hid htd
  obtain ⟨x, q, e, hl⟩ : ∃ x q e, plenS zs p i = (x, q, e) := ⟨_, _, _, rfl⟩
  have HLN := Lib.hid (plenC kr kb kc n c p B most i A v fx out zs ts w h hb hB hn hi x q e hl)
  have hxv := plenS_v zs p i
  unfold againS at hs
  rw [hl] at hs hxv
  dsimp only at hs hxv
  clear h hb hcb htd h1 h2 hbl hl
  by_cases he : ¬ e = 0
  · rw [if_pos he] at hs
    have hz : (e == 0) = false := beq_eq_false_iff_ne.2 he
    have HE := Lib.hid he
    cases hs
    clear he
    go_enter Tryd.func64, Tryd.ntmps64
    go_wp2_with (go_at_call 72; refine HLN.out.mono ?_; rintro r w2 ⟨rfl, hb2, ho2⟩; have HO2 := Lib.hid ho2; clear hb2 ho2)
    go_ret
    exact ⟨rfl, HO2.out.keeps H.out, fun h0 => absurd h0 HE.out⟩
  have he := Decidable.not_not.1 he
  subst he
  rw [if_neg (by decide)] at hs
  obtain ⟨y, q2, e2, hd2⟩ : ∃ y q2 e2, pdisS zs d q = (y, q2, e2) := ⟨_, _, _, rfl⟩
  have HDI := Lib.hid (fun W (hW : Only2 kb kc w W) (hR : RS W kr kb kc ts A n c zs q v out most fx) => pdisC kr kb kc n c q B most hd A v fx out zs d ts W hR (HBY.out _ hW) HBB.out hn (HCB.out _ hW) HTD.out y q2 e2 hd2)
  have hyv := pdisS_v zs d q
  rw [hd2] at hs hyv
  dsimp only at hs hyv
  clear hd2
  by_cases he : ¬ e2 = 0
  · rw [if_pos he] at hs
    have hz : (e2 == 0) = false := beq_eq_false_iff_ne.2 he
    have HE := Lib.hid he
    cases hs
    clear he hyv
    go_enter Tryd.func64, Tryd.ntmps64
    go_wp2_with (first
      | (go_at_call 72; refine HLN.out.mono ?_; rintro r w2 ⟨rfl, hb2, ho2⟩; have HB2 := Lib.hid hb2; have HO2 := Lib.hid ho2; clear hb2 ho2)
      | (go_at_call 73; refine (HDI.out _ HO2.out HB2.out).mono ?_; rintro r w3 ⟨rfl, hb3, ho3⟩; have HB3 := Lib.hid hb3; have HO3 := Lib.hid (HO2.out.trans ho3); clear hb3 ho3))
    go_ret
    exact ⟨rfl, HO3.out.keeps H.out, fun h0 => absurd h0 HE.out⟩
  have he := Decidable.not_not.1 he
  subst he
  have hyv := hyv rfl
  rw [if_neg (by decide)] at hs
  obtain ⟨A2, c2, hv, _⟩ := H.out.row.byt
  subst hv
  have hlm := H.out.lm
  by_cases hfar : (out.length : Int) < y
  · rw [if_pos hfar] at hs
    cases hs
    go_enter Tryd.func64, Tryd.ntmps64
    go_wp2_with (first
      | (go_at_call 72; refine HLN.out.mono ?_; rintro r w2 ⟨rfl, hb2, ho2⟩; have HB2 := Lib.hid hb2; have HO2 := Lib.hid ho2; clear hb2 ho2)
      | (go_at_call 73; refine (HDI.out _ HO2.out HB2.out).mono ?_; rintro r w3 ⟨rfl, hb3, ho3⟩; have HO3 := Lib.hid (HO2.out.trans ho3); have k1 := hb3.c1; clear hb3 ho3))
    go_ret
    exact ⟨rfl, HO3.out.keeps H.out, fun h0 => absurd h0 (by decide)⟩
  rw [if_neg hfar] at hs
  by_cases hov : (most : Int) - out.length < x
  · rw [if_pos hov] at hs
    cases hs
    have hf2 : y ≤ (out.length : Int) := by omega
    clear hfar
    go_enter Tryd.func64, Tryd.ntmps64
    go_wp2_with (first
      | (go_at_call 72; refine HLN.out.mono ?_; rintro r w2 ⟨rfl, hb2, ho2⟩; have HB2 := Lib.hid hb2; have HO2 := Lib.hid ho2; clear hb2 ho2)
      | (go_at_call 73; refine (HDI.out _ HO2.out HB2.out).mono ?_; rintro r w3 ⟨rfl, hb3, ho3⟩; have HO3 := Lib.hid (HO2.out.trans ho3); have k1 := hb3.c1; have k2 := hb3.c2; clear hb3 ho3))
    go_quiet (fail)
    go_wp2_with fail
    go_ret
    exact ⟨rfl, (HO3.out.keeps H.out).drewN _, fun h0 => absurd h0 (by decide)⟩
  rw [if_neg hov] at hs
  cases hs
  have hf2 : y ≤ (out.length : Int) := by omega
  have hov2 : x ≤ (most : Int) - out.length := by omega
  obtain ⟨N, rfl⟩ : ∃ N : Nat, x = N := ⟨x.toNat, by omega⟩
  obtain ⟨F, rfl⟩ : ∃ F : Nat, y = F := ⟨y.toNat, by omega⟩
  rw [Int.toNat_natCast, Int.toNat_natCast]
  clear hfar hov
  go_enter Tryd.func64, Tryd.ntmps64
  go_wp2_with (first
    | (go_at_call 72; refine HLN.out.mono ?_; rintro r w2 ⟨rfl, hb2, ho2⟩; have HB2 := Lib.hid hb2; have HO2 := Lib.hid ho2; clear hb2 ho2)
    | (go_at_call 73; refine (HDI.out _ HO2.out HB2.out).mono ?_; rintro r w3 ⟨rfl, hb3, ho3⟩; have HB3 := Lib.hid hb3; have HO3 := Lib.hid (HO2.out.trans ho3); have k1 := hb3.c1; have k2 := hb3.c2; clear hb3 ho3))
  go_quiet (fail)
  go_upto_region 12 with fail
  (try rw [show decide (out.length < F) = false from decide_eq_false (by omega)])
  (try rw [show decide ((most : Int) - out.length < N) = false from decide_eq_false (by omega)])
  go_loopw [48] (fun iv wr => ∃ (j : Nat) (u : Value) (o : List Int), j ≤ N ∧ iv = .int .i64 j ∧ Hid (o.length = out.length + j ∧ copyL F (N - j) o = copyL F N out) ∧ Hid (RS wr kr kb kc ts A n c zs p' u o most fx) ∧ Hid (Keeps ts w wr)) (fun iv _ => N - (intOf iv).toNat)
  case atStart => exact ⟨0, _, out, Nat.zero_le _, rfl, Lib.hid ⟨rfl, rfl⟩, Lib.hid (HB3.out.drewN _), Lib.hid ((HO3.out.keeps H.out).drewN _)⟩
  case round =>
    obtain ⟨j, u, o, hj, rfl, HL, HR, HK⟩ := hrel
    by_cases hlt : j < N
    · have hl := HL.out
      have hrg := HR.out.row.byt
      have h1 := HR.out.c1
      have hf := HR.out.fr 1
      obtain ⟨A4, c4, hu, hby⟩ := hrg
      subst hu
      have hby2 := hby.getD (o.length - F)
      obtain ⟨b, oo, rfl, _, hcl⟩ := hby.cell (by omega)
      have hco := hcl (o.length - F) (by omega)
      have hidx : ((o.length : Int) - F) = ((o.length - F : Nat) : Int) := by omega
      obtain ⟨z, hz⟩ : ∃ z, o.getD (o.length - F) 0 = z := ⟨_, rfl⟩
      rw [hz] at hby2 hco
      have HLS : Hid ((o ++ [z]).length = out.length + (j + 1) ∧ copyL F (N - (j + 1)) (o ++ [z]) = copyL F N out) := Lib.hid (by
        refine ⟨by simp; omega, ?_⟩
        rw [← hl.2, show N - j = (N - (j + 1)) + 1 by omega, copyL, hz])
      obtain ⟨D, hD⟩ : ∃ D, o.length - F = D := ⟨_, rfl⟩
      rw [hD] at hco hidx
      have hDlt : (D : Int) < o.length := by omega
      have e1 : IntKind.i64.wrap ((o.length : Int) - F) = D := by rw [hidx]; exact IntWalk.i64_in _ (by omega)
      have e2 : IntKind.u8.wrap z = z := by rw [IntKind.wrap_u8]; omega
      have HAP := Lib.hid (fun W (e : Mine W 0 (.slice (some ⟨b, oo, none⟩) o.length c4) o.length o) => e.append1 z hby2 22 (by omega))
      clear hl hcl hby hz hD hidx
      obtain ⟨v6, w6, hrun, hmi6, hbl6, hos6, htp6, hou6, hsz6, hwn6⟩ := HAP.out wr.drew (HR.out.row.drewN 1)
      obtain ⟨A6, c6, hv6, _⟩ := hmi6.byt
      subst hv6
      have hkr := HR.out.lt
      have hkn := fun e => (HR.out.own kr e).2.1 rfl
      have hf6 : w6.frozen? ⟨kr, 1, none⟩ = false := (World.frozen?_of_block (hbl6 kr hkr hkn)).trans hf
      have hk6 : w6.cell? ⟨kr, 1, none⟩ = _ := (World.cell?_of_block (hbl6 kr hkr hkn)).trans h1
      have HEND := Lib.hid ((HR.out.drewN 1).grown (out6 := o ++ [z]) (by rw [List.length_append]; exact hmi6) hbl6 hos6 htp6 hou6 hsz6 hwn6 (by have := HLS.out.1; omega))
      have HRUN := Lib.hid hrun
      have hka : (wr.alloc (.cells #[.int .u8 z] 5)).cell? ⟨kr, 1, none⟩ = _ := (World.cell?_of_block (((Below.refl wr.heap.size wr).alloc (Nat.le_refl _) _).block kr hkr)).trans h1
      clear hmi6 hbl6 hos6 htp6 hou6 hsz6 hwn6 hrun hkr hkn
      go_wp2_with fail
      go_region_law (refine step_append_run rfl (.tmp 54) (.tmp 68) 22 rfl _ _ rfl rfl HRUN.out ?_)
      all_goals
        go_wp2_with fail
        go_roundw
        case rel => exact ⟨j + 1, _, _, by omega, by go_num, HLS, Lib.hid HEND.out.1, Lib.hid ((HK.out.drewN 1).trans HEND.out.2)⟩
        case measure => simp [intOf]; omega
    · obtain rfl : j = N := by omega
      go_wp2
      go_ret
      refine ⟨rfl, HK.out, fun _ => ⟨u, ?_⟩⟩
      have h1 := HL.out.2
      rw [Nat.sub_self] at h1
      have h2 := HR.out
      rw [show o = copyL F j out from h1] at h2
      exact h2
end Go.Proofs.YtebbakfjjjamkaaDoor
