/- The project's own reader of blocks (package inflate): lengthsCode, told. -/
import Derived.Test.YtebbakfjjjamkaaDoorPRow
import Derived.Test.YtebbakfjjjamkaaDoorPFix
namespace Go.Proofs.YtebbakfjjjamkaaDoor
open Go.RowKit
set_option linter.unusedVariables false
set_option maxRecDepth 100000

/-- The table that the rows list lies as it was laid. -/
def Ord (w : World) : Prop := ∀ i, i < 19 → w.cell? ⟨0, i, none⟩ = some (.int .i64 (ordL.getD i 0))
theorem Ord.lt {w : World} (h : Ord w) : 0 < w.heap.size := by
  have h0 := h 0 (by omega)
  rcases Nat.lt_or_ge 0 w.heap.size with hlt | hge
  · exact hlt
  · simp [World.cell?, Array.getElem?_eq_none hge] at h0
theorem Ord.keeps {w w' : World} {ts : Nat → Prop} (h : Ord w) (hk : Keeps ts w w') (ht : ts 0) : Ord w' := fun i hi => (World.cell?_of_block (hk.block _ ht)).trans (h i hi)
theorem Ord.below {w w' : World} {B : Nat} (h : Ord w) (hb : Below B w w') (hB : w.heap.size ≤ B) : Ord w' := fun i hi => (World.cell?_of_block (hb.block _ (Nat.lt_of_lt_of_le h.lt hB))).trans (h i hi)
theorem Ord.only2 {w w' : World} {a b : Nat} (h : Ord w) (ho : Only2 a b w w') (ha : ¬ a = 0) (hb : ¬ b = 0) : Ord w' := fun i hi => (World.cell?_of_block (ho.block _ h.lt (fun e => ha e.symm) (fun e => hb e.symm))).trans (h i hi)

theorem clR_bad (zs : List Int) : ∀ (k i p : Nat) (e : Int) (cl : List Int), ¬ e = 0 → (clR zs k i p e cl).2.1 = e
  | 0, _, _, _, _, _ => rfl
  | k + 1, i, p, e, cl, he => by
    rw [clR]
    have ht : takeS zs p e 3 = (0, p, e) := by unfold takeS; rw [if_neg he]
    rw [ht]
    exact clR_bad zs k _ _ e _ he
/-- What lengthsCode answers: where the reader stands then, its error, the lengths. -/
def lcS (zs : List Int) (p : Nat) : Nat × Int × List Int :=
  let c := takeS zs p 0 4
  let d := clR zs (c.1 + 4).toNat 0 c.2.1 c.2.2 (List.replicate 19 0)
  (d.1, if d.2.1 = 0 ∧ mayS d.2.2 = false then 4 else d.2.1, d.2.2)
theorem PB.other {w : World} {kb kc n c p k i : Nat} {A : Option Addr} {zs : List Int} {u : Value} (h : PB w kb kc A n c zs p) (h1 : kb ≠ k) (h2 : kc ≠ k) : PB (w.setCell ⟨k, i, none⟩ u) kb kc A n c zs p := h.same (Below.heap_setCell w ⟨k, i, none⟩ u kb h1) (Below.heap_setCell w ⟨k, i, none⟩ u kc h2)
theorem PB.drewD {w : World} {kb kc n c p : Nat} {A : Option Addr} {zs : List Int} (h : PB w kb kc A n c zs p) : PB w.drew kb kc A n c zs p := h.drewN 1
set_option maxHeartbeats 2000000 in
theorem plc (kr kb kc n c p B most : Nat) (A : Option Addr) (v fx : Value) (out zs : List Int) (ts : Nat → Prop) (w : World) (h : RS w kr kb kc ts A n c zs p v out most fx) (hb : Byt w B A n c zs) (hB : ∀ i, i < B → ts i) (hn : n ≤ 1000000) (ho : Ord w) (hg : ts 0)
    (p' : Nat) (e' : Int) (cl' : List Int) (hs : lcS zs p = (p', e', cl')) :
    Calls Tryd.prog 66 #[.pointer (some ⟨kr, 0, none⟩)] w fun r w' => Only2 kb kc w w' ∧
      ((e' = 0 ∧ ∃ hc, r = .returned (.tuple #[.pointer (some ⟨hc, 0, none⟩), .int .i64 0]) ∧ CB w' hc cl' ∧ w.heap.size ≤ hc ∧ PB w' kb kc A n c zs p' ∧ cl'.length = 19) ∨ (¬ e' = 0 ∧ r = .returned (.tuple #[.pointer none, .int .i64 e']))) := by
  have H := Lib.hid h
  have hbl := h.ble hB
  have HBY := Lib.hid (fun W (hW : Only2 kb kc w W) => hb.only2 hW hbl.1 hbl.2.1 hbl.2.2.2)
  have HLEN := Lib.hid hb.len
  have hkb0 : ¬ kb = 0 := fun e => h.tb' (e ▸ hg)
  have hkc0 : ¬ kc = 0 := fun e => h.tc (e ▸ hg)
  have HOR := Lib.hid (fun W (hW : Only2 kb kc w W) => ho.only2 hW hkb0 hkc0)
  have HN4 := Lib.hid (fun x q e hs => pnumC kr kb kc n c p B most 4 4 A v fx out zs ts w h hb hB hn (by omega) (by omega) (by omega) x q e hs)
  have HN3 := Lib.hid (fun W q (hW : Only2 kb kc w W) (hq : PB W kb kc A n c zs q) x q' e hs => pnumC kr kb kc n c q B most 3 0 A v fx out zs ts W (H.out.read hW hq) (HBY.out W hW) hB hn (by omega) (by omega) (by omega) x q' e hs)
  have hkbl := h.ltb
  have hkcl := h.ltc
  have htn := takeS_num zs p 4 4
  have htv := takeS_v zs p 0 4
  unfold lcS at hs
  obtain ⟨x, q, e, hnu⟩ : ∃ x q e, numS zs p 4 4 = (x, q, e) := ⟨_, _, _, rfl⟩
  obtain ⟨x1, q1, e1, htk⟩ : ∃ x q e, takeS zs p 0 4 = (x, q, e) := ⟨_, _, _, rfl⟩
  rw [hnu, htk] at htn
  rw [htk] at hs htv
  dsimp only at htn hs htv
  obtain ⟨h1, h2⟩ := htn
  cases h1
  have HN4a := Lib.hid (HN4.out x q e hnu)
  clear h hb hbl hnu htk ho HN4 hkb0 hkc0
  by_cases he : ¬ e = 0
  · have hbad := clR_bad zs (x1 + 4).toNat 0 q e (List.replicate 19 0) he
    obtain ⟨d1, d2, d3, hd⟩ : ∃ a b c, clR zs (x1 + 4).toNat 0 q e (List.replicate 19 0) = (a, b, c) := ⟨_, _, _, rfl⟩
    rw [hd] at hs hbad
    dsimp only at hs hbad
    subst hbad
    rw [if_neg (fun h => he h.1)] at hs
    have HE := Lib.hid he
    have hz : (d2 == 0) = false := beq_eq_false_iff_ne.2 he
    cases hs
    clear he hd h2 htv
    go_enter Tryd.func66, Tryd.ntmps66
    go_wp2_with (go_at_call 74; refine HN4a.out.mono ?_; rintro r w2 ⟨rfl, hb2, ho2⟩; have HO2 := Lib.hid ho2; clear hb2 ho2)
    go_ret2
    exact ⟨HO2.out, .inr ⟨HE.out, rfl⟩⟩
  have he := Decidable.not_not.1 he
  subst he
  have hx := h2 rfl
  subst hx
  obtain ⟨m, hm⟩ : ∃ m : Nat, 4 + x1 = m := ⟨(4 + x1).toNat, by omega⟩
  have hm19 : m ≤ 19 := by have h16 : x1 < 16 := htv.2; omega
  rw [show (x1 + 4).toNat = m by omega] at hs
  obtain ⟨pD, eD, clD, hD⟩ : ∃ a b c, clR zs m 0 q 0 (List.replicate 19 0) = (a, b, c) := ⟨_, _, _, rfl⟩
  rw [hD] at hs
  dsimp only at hs
  have HD := Lib.hid hD
  have HS := Lib.hid hs
  have hmi : (m : Int) ≤ 19 := by omega
  rw [hm] at HN4a
  clear h2 htv hs hD hm
  go_enter Tryd.func66, Tryd.ntmps66
  go_upto_region 4 with (go_at_call 74; refine HN4a.out.mono ?_; rintro r w2 ⟨rfl, hb2, ho2⟩; have HB2 := Lib.hid hb2.pb; have HO2 := Lib.hid ho2; clear hb2 ho2)
  obtain ⟨W3, hmk, hir, hbe, hsz⟩ := make_ints 19 w2 (by omega)
  have HIR := Lib.hid hir
  have HO3 : Hid (Only2 kb kc w W3) := Lib.hid (HO2.out.trans (Only2.of_below hbe kb kc))
  have HB3 : Hid (PB W3 kb kc A n c zs q) := Lib.hid (HB2.out.below hbe HB2.out.lt HB2.out.cur.lt)
  have hgk : kb < w2.heap.size ∧ kc < w2.heap.size ∧ w.heap.size ≤ w2.heap.size ∧ w2.heap.size ≠ kb ∧ w2.heap.size ≠ kc := ⟨HB2.out.lt, HB2.out.cur.lt, HO2.out.size, Nat.ne_of_gt HB2.out.lt, Nat.ne_of_gt HB2.out.cur.lt⟩
  obtain ⟨g, hgg⟩ : ∃ g, w2.heap.size = g := ⟨_, rfl⟩
  rw [hgg] at HIR hmk hgk
  have hmk2 : (Instr.makeSlice 58 (.int .i64 19) (.int .i64 19)).run Tryd.prog w2 = .ok (.slice (some ⟨g, 0, none⟩) 19 19) W3 := hmk
  have HGK := Lib.hid hgk
  have hq8 : Hid (q ≤ 8 * n) := Lib.hid (by have h1 := HB2.out.pq; have h2 := HB2.out.qn; omega)
  clear hir hbe hsz hgg hmk hgk
  go_upto_region 6 with fail
  clear hmk2
  go_loopw [20] (fun iv wr => ∃ (j q1 : Nat) (cl : List Int), j ≤ m ∧ iv = .int .i64 j ∧ Hid (cl.length = 19 ∧ Lens cl ∧ clR zs (m - j) j q1 0 cl = (pD, eD, clD)) ∧ Hid (IRow wr g cl) ∧ Hid (PB wr kb kc A n c zs q1) ∧ Hid (Only2 kb kc w wr)) (fun iv _ => m - (intOf iv).toNat)
  case atStart => exact ⟨0, q, _, Nat.zero_le _, rfl, Lib.hid ⟨by simp, Lens.zeros 19, HD.out⟩, HIR, HB3, HO3⟩
  case round =>
    obtain ⟨j, q1, cl, hj, rfl, HC, HI, HB, HO⟩ := hrel
    obtain ⟨hc1, hc2, hc3⟩ := HC.out
    by_cases hlt : j < m
    · rw [show m - j = (m - (j + 1)) + 1 by omega, clR] at hc3
      have hol := ordL_lt j (by omega)
      have hoc := fun W hW => HOR.out W hW j (by omega)
      obtain ⟨o, hoo⟩ : ∃ o : Nat, ordL.getD j 0 = o := ⟨(ordL.getD j 0).toNat, by omega⟩
      rw [hoo] at hol hoc hc3
      rw [Int.toNat_natCast] at hc3
      have HOC := Lib.hid hoc
      have htn := takeS_num zs q1 0 3
      have htv := takeS_v zs q1 0 3
      obtain ⟨y, q2, e2, hnu⟩ : ∃ y q2 e2, numS zs q1 0 3 = (y, q2, e2) := ⟨_, _, _, rfl⟩
      obtain ⟨y1, q3, e3, htk⟩ : ∃ y q2 e2, takeS zs q1 0 3 = (y, q2, e2) := ⟨_, _, _, rfl⟩
      rw [hnu, htk] at htn
      rw [htk] at hc3 htv
      dsimp only at htn hc3 htv
      obtain ⟨h1, h2⟩ := htn
      cases h1
      have HN := Lib.hid (HN3.out wr.drew q1 HO.out.drew HB.out.drewD y q2 e2 hnu)
      have k0 := HOC.out wr HO.out
      have ho19 : (o : Int) < 19 := by omega
      have kc0 := HI.out.cell o (by omega)
      have kf := HI.out.fr o
      clear hnu htk hol hoc hoo
      by_cases he : ¬ e2 = 0
      · have hbad := clR_bad zs (m - (j + 1)) (j + 1) q2 e2 (cl.set o y1) he
        rw [hc3] at hbad
        dsimp only at hbad
        have hz : (e2 == 0) = false := beq_eq_false_iff_ne.2 he
        have HE := Lib.hid he
        have HBAD := Lib.hid hbad
        clear he hbad hc3 h2 htv
        go_wp2_with fail
        go_region_with (go_at_call 74; refine HN.out.mono ?_; rintro r w4 ⟨rfl, hb4, ho4⟩; have HO4 := Lib.hid (HO.out.drew.trans ho4); have k4 := HOC.out w4 HO4.out; have HI4 := Lib.hid ((ho4.block g HI.out.lt HGK.out.2.2.2.1 HGK.out.2.2.2.2).trans HI.out); have kc4 := IRow.cell HI4.out o (by omega); have kf4 := IRow.fr HI4.out o; have hb5 := Lib.hid hb4; clear hb4 ho4)
        all_goals
          go_wp2_with fail
          go_ret2
          have hS := HS.out
          rw [HBAD.out, if_neg (fun h => HE.out h.1)] at hS
          obtain ⟨rfl, h3⟩ := Prod.mk.inj hS
          obtain ⟨rfl, rfl⟩ := Prod.mk.inj h3
          exact ⟨⟨HO4.out.os, HO4.out.tape, HO4.out.output, by simpa [World.setCell] using HO4.out.size, fun k hk h1 h2 => (Below.heap_setCell w4 ⟨g, o, none⟩ _ k (by have := HGK.out.2.2.1; simp; omega)).trans (HO4.out.block k hk h1 h2)⟩, .inr ⟨HE.out, rfl⟩⟩
      · have he := Decidable.not_not.1 he
        subst he
        have hy := h2 rfl
        rw [Int.zero_add] at hy
        subst hy
        have HCN : Hid ((cl.set o y).length = 19 ∧ Lens (cl.set o y) ∧ clR zs (m - (j + 1)) (j + 1) q2 0 (cl.set o y) = (pD, eD, clD)) := Lib.hid ⟨by simp [hc1], hc2.set o y (by have h8 : y < 8 := htv.2; omega), hc3⟩
        clear hc3 h2 htv
        go_wp2_with fail
        go_region_with (go_at_call 74; refine HN.out.mono ?_; rintro r w4 ⟨rfl, hb4, ho4⟩; have HO4 := Lib.hid (HO.out.drew.trans ho4); have k4 := HOC.out w4 HO4.out; have HI4 := Lib.hid ((ho4.block g HI.out.lt HGK.out.2.2.2.1 HGK.out.2.2.2.2).trans HI.out); have kc4 := IRow.cell HI4.out o (by omega); have kf4 := IRow.fr HI4.out o; have hb5 := Lib.hid hb4; clear hb4 ho4)
        all_goals
          go_wp2_with fail
          go_roundw
          case rel => exact ⟨j + 1, q2, _, by omega, by go_num, HCN, Lib.hid (IRow.put HI4.out o _), Lib.hid (hb5.out.pb.other (by have := HGK.out; omega) (by have := HGK.out; omega)), Lib.hid ⟨HO4.out.os, HO4.out.tape, HO4.out.output, by simpa [World.setCell] using HO4.out.size, fun k hk h1 h2 => (Below.heap_setCell w4 ⟨g, o, none⟩ _ k (by have := HGK.out.2.2.1; simp; omega)).trans (HO4.out.block k hk h1 h2)⟩⟩
          case measure => simp [intOf]; omega
    · obtain rfl : j = m := by omega
      rw [Nat.sub_self, clR] at hc3
      obtain ⟨rfl, h3⟩ := Prod.mk.inj hc3
      obtain ⟨rfl, rfl⟩ := Prod.mk.inj h3
      have hnums := HI.out.nums hc1
      by_cases hmy : mayS cl = true
      · have hS := HS.out
        rw [if_neg (fun h => by rw [hmy] at h; exact absurd h.2 (by decide))] at hS
        have HS2 := Lib.hid hS
        have HCO := Lib.hid (pcode_yes _ 19 19 _ cl wr hnums (Nat.le_refl _) (by omega) (fun i => (hc2 i).1) (fun i => (hc2 i).2) hmy)
        have HC1 := Lib.hid hc1
        clear hS hnums hc3
        go_wp2_with (go_at_call 60; refine HCO.out.mono ?_; rintro r w5 ⟨rfl, hcb, hb5⟩; have HCB := Lib.hid hcb; have HB5 := Lib.hid hb5; clear hcb hb5)
        go_ret2
        obtain ⟨rfl, h3⟩ := Prod.mk.inj HS2.out
        obtain ⟨rfl, rfl⟩ := Prod.mk.inj h3
        exact ⟨HO.out.trans (Only2.of_below HB5.out kb kc), .inl ⟨rfl, _, rfl, HCB.out, HO.out.size, HB.out.below HB5.out HB.out.lt HB.out.cur.lt, HC1.out⟩⟩
      · have hS := HS.out
        rw [if_pos ⟨rfl, by simpa using hmy⟩] at hS
        have HS2 := Lib.hid hS
        have HCO := Lib.hid (pcode_no _ 19 19 _ cl wr hnums (Nat.le_refl _) (by omega) (fun i => (hc2 i).1) (fun i => (hc2 i).2) hmy)
        clear hS hnums hc3
        go_wp2_with (go_at_call 60; refine HCO.out.mono ?_; rintro r w5 ⟨rfl, hb5⟩; have HB5 := Lib.hid hb5; clear hb5)
        go_ret2
        obtain ⟨rfl, h3⟩ := Prod.mk.inj HS2.out
        obtain ⟨rfl, rfl⟩ := Prod.mk.inj h3
        exact ⟨HO.out.trans (Only2.of_below HB5.out kb kc), .inr ⟨by decide, rfl⟩⟩
end Go.Proofs.YtebbakfjjjamkaaDoor
