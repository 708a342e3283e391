/- The project's own reader of blocks (package inflate): told. -/
import Derived.Test.YtebbakfjjjamkaaDoorPDyn
namespace Go.Proofs.YtebbakfjjjamkaaDoor
open Go.RowKit
set_option linter.unusedVariables false
set_option maxRecDepth 100000

/-- The tables that a block tells, behind how many there are. -/
def dynT (zs : List Int) (L D : Int) (p : Nat) (e : Int) : Nat × Int × List Int × List Int :=
  let c := takeS zs p e 4
  let d := clR zs (c.1 + 4).toNat 0 c.2.1 c.2.2 (List.replicate 19 0)
  let r := rowsR zs d.2.2 (codesS d.2.2) (L + D).toNat ((L + D).toNat + 1) d.1 (if d.2.1 = 0 ∧ mayS d.2.2 = false then 4 else d.2.1) []
  if ¬ r.2.1 = 0 then (r.1, r.2.1, [], [])
  else (r.1, if mayS (r.2.2.take L.toNat) = false ∨ mayS (r.2.2.drop L.toNat) = false ∨ (r.2.2.take L.toNat).getD 256 0 = 0 then 4 else 0, r.2.2.take L.toNat, r.2.2.drop L.toNat)
theorem dynS_T (zs : List Int) (p : Nat) : dynS zs p = dynT zs ((takeS zs p 0 5).1 + 257) ((takeS zs (takeS zs p 0 5).2.1 (if (takeS zs p 0 5).2.2 = 0 ∧ 286 < (takeS zs p 0 5).1 + 257 then 4 else (takeS zs p 0 5).2.2) 5).1 + 1)
    (takeS zs (takeS zs p 0 5).2.1 (if (takeS zs p 0 5).2.2 = 0 ∧ 286 < (takeS zs p 0 5).1 + 257 then 4 else (takeS zs p 0 5).2.2) 5).2.1
    (if (takeS zs (takeS zs p 0 5).2.1 (if (takeS zs p 0 5).2.2 = 0 ∧ 286 < (takeS zs p 0 5).1 + 257 then 4 else (takeS zs p 0 5).2.2) 5).2.2 = 0 ∧ 30 < (takeS zs (takeS zs p 0 5).2.1 (if (takeS zs p 0 5).2.2 = 0 ∧ 286 < (takeS zs p 0 5).1 + 257 then 4 else (takeS zs p 0 5).2.2) 5).1 + 1 then 4 else (takeS zs (takeS zs p 0 5).2.1 (if (takeS zs p 0 5).2.2 = 0 ∧ 286 < (takeS zs p 0 5).1 + 257 then 4 else (takeS zs p 0 5).2.2) 5).2.2) := rfl
theorem dynT_bad (zs : List Int) (L D : Int) (p : Nat) (e : Int) (he : ¬ e = 0) : (dynT zs L D p e).2.1 = e := by
  unfold dynT
  have ht : takeS zs p e 4 = (0, p, e) := by unfold takeS; rw [if_neg he]
  rw [ht]
  dsimp only
  have hc := clR_bad zs (0 + 4 : Int).toNat 0 p e (List.replicate 19 0) he
  obtain ⟨d1, d2, d3, hd⟩ : ∃ a b c, clR zs (0 + 4 : Int).toNat 0 p e (List.replicate 19 0) = (a, b, c) := ⟨_, _, _, rfl⟩
  rw [hd] at hc ⊢
  dsimp only at hc ⊢
  subst hc
  have hif : (if d2 = 0 ∧ mayS d3 = false then 4 else d2) = d2 := if_neg (fun h => he h.1)
  rw [hif, rowsR_stop _ _ _ _ _ _ _ _ (fun h => he h.1)]
  dsimp only
  rw [if_pos he]
theorem dynT_lc (zs : List Int) (L D : Int) (p q : Nat) (e : Int) (cl : List Int) (h : lcS zs p = (q, e, cl)) : dynT zs L D p 0 =
    (if ¬ (rowsR zs cl (codesS cl) (L + D).toNat ((L + D).toNat + 1) q e []).2.1 = 0 then ((rowsR zs cl (codesS cl) (L + D).toNat ((L + D).toNat + 1) q e []).1, (rowsR zs cl (codesS cl) (L + D).toNat ((L + D).toNat + 1) q e []).2.1, [], [])
     else ((rowsR zs cl (codesS cl) (L + D).toNat ((L + D).toNat + 1) q e []).1, if mayS ((rowsR zs cl (codesS cl) (L + D).toNat ((L + D).toNat + 1) q e []).2.2.take L.toNat) = false ∨ mayS ((rowsR zs cl (codesS cl) (L + D).toNat ((L + D).toNat + 1) q e []).2.2.drop L.toNat) = false ∨ ((rowsR zs cl (codesS cl) (L + D).toNat ((L + D).toNat + 1) q e []).2.2.take L.toNat).getD 256 0 = 0 then 4 else 0, (rowsR zs cl (codesS cl) (L + D).toNat ((L + D).toNat + 1) q e []).2.2.take L.toNat, (rowsR zs cl (codesS cl) (L + D).toNat ((L + D).toNat + 1) q e []).2.2.drop L.toNat)) := by
  unfold lcS at h
  dsimp only at h
  obtain ⟨h1, h3⟩ := Prod.mk.inj h
  obtain ⟨h2, h4⟩ := Prod.mk.inj h3
  unfold dynT
  dsimp only
  rw [h1, h2, h4]
theorem cnt_take (zs : List Int) (p : Nat) (least mx : Int) (x : Int) (q : Nat) (e : Int) (h : cntS zs p least mx = (x, q, e)) (hl : ¬ mx < 0) :
    (¬ e = 0 → e = (if (takeS zs p 0 5).2.2 = 0 ∧ mx < (takeS zs p 0 5).1 + least then 4 else (takeS zs p 0 5).2.2)) ∧
    (e = 0 → takeS zs p 0 5 = (x - least, q, 0) ∧ least ≤ x ∧ x ≤ mx ∧ ¬ mx < (takeS zs p 0 5).1 + least) := by
  have hb := bitsZ_bd zs p 5
  unfold cntS numS at h
  unfold takeS
  rw [if_pos rfl]
  by_cases hf : p + 5 ≤ 8 * zs.length
  · rw [if_pos hf] at h ⊢
    dsimp only at h ⊢
    by_cases hm : mx < least + bitsZ zs p 5
    · rw [if_pos hm] at h
      cases h
      exact ⟨fun _ => by rw [if_pos ⟨rfl, by omega⟩], fun h => absurd h (by decide)⟩
    · rw [if_neg hm] at h
      cases h
      exact ⟨fun h => absurd rfl h, fun _ => ⟨by rw [show least + bitsZ zs p 5 - least = bitsZ zs p 5 by omega], by omega, by omega, by omega⟩⟩
  · rw [if_neg hf] at h ⊢
    dsimp only at h ⊢
    rw [if_neg hl] at h
    cases h
    exact ⟨fun _ => by rw [if_neg (fun h => absurd h.1 (by decide))], fun h => absurd h (by decide)⟩
theorem takeS_bad (zs : List Int) (p : Nat) (e : Int) (m : Nat) (he : ¬ e = 0) : takeS zs p e m = (0, p, e) := by unfold takeS; rw [if_neg he]
theorem dyn1 (zs : List Int) (p : Nat) (x : Int) (q : Nat) (e : Int) (h : cntS zs p 257 286 = (x, q, e)) (he : ¬ e = 0) : (dynS zs p).2.1 = e := by
  have h1 := (cnt_take zs p 257 286 x q e h (by decide)).1 he
  rw [dynS_T, ← h1, takeS_bad zs _ e 5 he]
  dsimp only
  rw [if_neg (fun h => he h.1)]
  exact dynT_bad zs _ _ _ e he
theorem dyn2 (zs : List Int) (p : Nat) (x : Int) (q : Nat) (y : Int) (q2 : Nat) (e2 : Int) (h : cntS zs p 257 286 = (x, q, 0)) (h2 : cntS zs q 1 30 = (y, q2, e2)) : (¬ e2 = 0 → (dynS zs p).2.1 = e2) ∧ (e2 = 0 → dynS zs p = dynT zs x y q2 0) := by
  have h1 := (cnt_take zs p 257 286 x q 0 h (by decide)).2 rfl
  have h3 := cnt_take zs q 1 30 y q2 e2 h2 (by decide)
  have hx : ¬ (286 : Int) < x - 257 + 257 := by omega
  rw [dynS_T, h1.1]
  dsimp only
  rw [if_neg (show ¬ ((0 : Int) = 0 ∧ (286 : Int) < x - 257 + 257) from fun h => hx h.2)]
  constructor
  · intro he
    rw [← h3.1 he]
    exact dynT_bad zs _ _ _ e2 he
  · intro he
    subst he
    obtain ⟨h4, h5, h6, h7⟩ := h3.2 rfl
    rw [h4]
    dsimp only
    rw [if_neg (show ¬ ((0 : Int) = 0 ∧ (30 : Int) < y - 1 + 1) from fun h => by omega), show x - 257 + 257 = x by omega, show y - 1 + 1 = y by omega]
theorem cut_hi (W : World) (b m c h : Nat) (hh : h ≤ c) : (Instr.slice 58 (.slice (some ⟨b, 0, none⟩) m c) none (some (.int .i64 (h : Int))) none).run Tryd.prog W = .ok (.slice (some ⟨b, 0, none⟩) h c) W := by
  rw [run_slice_h (P := Tryd.prog) W 58 _ _ _ (by rw [Tryd.underlying58]; rfl) .i64 (h : Int) (by omega) (by omega)]
  rw [show Tryd.prog.elem 58 = 3 from by kernel_rfl, show (Go.sizeOf 3).run Tryd.prog W = .ok 1 W from by kernel_rfl]
  simp [Result.andThen, sliced, Addr.add]
theorem cut_lo (W : World) (b m c l : Nat) (hl : l ≤ m) (h0 : 0 < l) (hc : l < c) : (Instr.slice 58 (.slice (some ⟨b, 0, none⟩) m c) (some (.int .i64 (l : Int))) none none).run Tryd.prog W = .ok (.slice (some ⟨b, l, none⟩) (m - l) (c - l)) W := by
  rw [run_slice_l (P := Tryd.prog) W 58 _ _ _ (by rw [Tryd.underlying58]; rfl) .i64 (l : Int) (by omega) (by omega)]
  rw [show Tryd.prog.elem 58 = 3 from by kernel_rfl, show (Go.sizeOf 3).run Tryd.prog W = .ok 1 W from by kernel_rfl]
  simp [Result.andThen, sliced, Addr.add, show ¬ c = l by omega, show ¬ l = 0 by omega]
theorem nums_take {w : World} {B b n c x : Nat} {l : List Int} (h : Nums w B (some ⟨b, 0, none⟩) n c l) (hx : x ≤ n) : Nums w B (some ⟨b, 0, none⟩) x c (l.take x) :=
  ⟨by have := h.len; simp; omega, Nat.le_trans hx h.cap, fun h0 => by
    obtain ⟨b', o, e, hlt, hc⟩ := h.cell (by omega)
    cases e
    refine ⟨b, 0, rfl, hlt, fun i hi => ?_⟩
    rw [hc i (by omega)]
    simp [List.getD, hi]⟩
theorem nums_drop {w : World} {B b n c x : Nat} {l : List Int} (h : Nums w B (some ⟨b, 0, none⟩) n c l) (hx : x ≤ n) : Nums w B (some ⟨b, x, none⟩) (n - x) (c - x) (l.drop x) :=
  ⟨by have := h.len; simp; omega, by have := h.cap; omega, fun h0 => by
    obtain ⟨b', o, e, hlt, hc⟩ := h.cell (by omega)
    cases e
    refine ⟨b, x, rfl, hlt, fun i hi => ?_⟩
    have := hc (x + i) (by omega)
    rw [Nat.zero_add] at this
    rw [this]
    simp [List.getD]⟩

theorem Nums.mono1 {w : World} {B B' n c : Nat} {A : Option Addr} {zs : List Int} (h : Nums w B A n c zs) (hB : B ≤ B') : Nums w B' A n c zs := ⟨h.len, h.cap, fun hn => by
  obtain ⟨b, o, e, hlt, hc⟩ := h.cell hn
  exact ⟨b, o, e, Nat.lt_of_lt_of_le hlt hB, hc⟩⟩
theorem nums_at {w : World} {B b n c : Nat} {l : List Int} (h : Nums w B (some ⟨b, 0, none⟩) n c l) (i : Nat) (hi : i < n) : w.cell? ⟨b, i, none⟩ = some (.int .i64 (l.getD i 0)) := by
  obtain ⟨b', o, e, hlt, hc⟩ := h.cell (by omega)
  cases e
  have := hc i hi
  rwa [Nat.zero_add] at this
set_option maxHeartbeats 4000000 in
theorem ptold (kr kb kc n c p B most : Nat) (A : Option Addr) (v fx : Value) (out zs : List Int) (ts : Nat → Prop) (w : World) (h : RS w kr kb kc ts A n c zs p v out most fx) (hb : Byt w B A n c zs) (hB : ∀ i, i < B → ts i) (hn : n ≤ 1000000) (ho : Ord w) (hg : ts 0)
    (p' : Nat) (e' : Int) (l' d' : List Int) (hs : dynS zs p = (p', e', l', d')) :
    Calls Tryd.prog 50 #[.pointer (some ⟨kr, 0, none⟩)] w fun r w' => Only2 kb kc w w' ∧
      ((e' = 0 ∧ ∃ kp hl hd, r = .returned (.tuple #[.pointer (some ⟨kp, 0, none⟩), .int .i64 0]) ∧ w'.heap[kp]? = some (.cells #[.pointer (some ⟨hl, 0, none⟩), .pointer (some ⟨hd, 0, none⟩)] 97 (0, 0)) ∧
        CB w' hl l' ∧ CB w' hd d' ∧ w.heap.size ≤ kp ∧ w.heap.size ≤ hl ∧ w.heap.size ≤ hd ∧ PB w' kb kc A n c zs p') ∨ (¬ e' = 0 ∧ r = .returned (.tuple #[.pointer none, .int .i64 e']))) := by
  have H := Lib.hid h
  have hbl := h.ble hB
  have HBY := Lib.hid (fun W (hW : Only2 kb kc w W) => hb.only2 hW hbl.1 hbl.2.1 hbl.2.2.2)
  have HLEN := Lib.hid hb.len
  have hkb0 : ¬ kb = 0 := fun e => h.tb' (e ▸ hg)
  have hkc0 : ¬ kc = 0 := fun e => h.tc (e ▸ hg)
  have HOR := Lib.hid (fun W (hW : Only2 kb kc w W) => ho.only2 hW hkb0 hkc0)
  obtain ⟨x, q, e, hc1⟩ : ∃ x q e, cntS zs p 257 286 = (x, q, e) := ⟨_, _, _, rfl⟩
  have HC1 := Lib.hid (pcount kr kb kc n c p B most 257 286 A v fx out zs ts w h hb hB hn (by omega) (by omega) x q e hc1)
  have HBB := Lib.hid hB
  have HG := Lib.hid hg
  have hkbl := h.ltb
  have hkcl := h.ltc
  clear h hb hbl ho hkb0 hkc0
  by_cases he : ¬ e = 0
  · have h1 := dyn1 zs p x q e hc1 he
    rw [hs] at h1
    dsimp only at h1
    subst h1
    have hz : (e' == 0) = false := beq_eq_false_iff_ne.2 he
    have HE := Lib.hid he
    clear he hs hc1
    go_enter Tryd.func50, Tryd.ntmps50
    go_wp2_with (go_at_call 65; with_reducible refine HC1.out.mono ?_; rintro r w2 ⟨rfl, hb2, ho2⟩; have HO2 := Lib.hid ho2; clear hb2 ho2)
    go_ret2
    exact ⟨HO2.out, .inr ⟨HE.out, rfl⟩⟩
  have he := Decidable.not_not.1 he
  subst he
  obtain ⟨y, q2, e2, hc2⟩ : ∃ a b c, cntS zs q 1 30 = (a, b, c) := ⟨_, _, _, rfl⟩
  have HC2 := Lib.hid (fun W (hW : Only2 kb kc w W) (hR : RS W kr kb kc ts A n c zs q v out most fx) => pcount kr kb kc n c q B most 1 30 A v fx out zs ts W hR (HBY.out W hW) HBB.out hn (by omega) (by omega) y q2 e2 hc2)
  have h2 := dyn2 zs p x q y q2 e2 hc1 hc2
  by_cases he : ¬ e2 = 0
  · have h1 := h2.1 he
    rw [hs] at h1
    dsimp only at h1
    subst h1
    have hz : (e' == 0) = false := beq_eq_false_iff_ne.2 he
    have HE := Lib.hid he
    clear he hs hc1 hc2 h2
    go_enter Tryd.func50, Tryd.ntmps50
    go_wp2_with (first
      | (go_at_call 65; with_reducible refine HC1.out.mono ?_; rintro r w2 ⟨rfl, hb2, ho2⟩; have HR2 := Lib.hid hb2; have HO2 := Lib.hid ho2; clear hb2 ho2)
      | (go_at_call 65; with_reducible refine (HC2.out _ HO2.out HR2.out).mono ?_; rintro r w3 ⟨rfl, hb3, ho3⟩; have HO3 := Lib.hid (HO2.out.trans ho3); clear hb3 ho3))
    go_ret2
    exact ⟨HO3.out, .inr ⟨HE.out, rfl⟩⟩
  have he := Decidable.not_not.1 he
  subst he
  have hxb := (cnt_take zs p 257 286 x q 0 hc1 (by decide)).2 rfl
  have hyb := (cnt_take zs q 1 30 y q2 0 hc2 (by decide)).2 rfl
  have hdyn := h2.2 rfl
  rw [hs] at hdyn
  obtain ⟨q3, e3, cl, hlc⟩ : ∃ a b c, lcS zs q2 = (a, b, c) := ⟨_, _, _, rfl⟩
  rw [dynT_lc zs x y q2 q3 e3 cl hlc] at hdyn
  have HL := Lib.hid (fun W (hW : Only2 kb kc w W) (hR : RS W kr kb kc ts A n c zs q2 v out most fx) => plc kr kb kc n c q2 B most A v fx out zs ts W hR (HBY.out W hW) HBB.out hn (HOR.out W hW) HG.out q3 e3 cl hlc)
  obtain ⟨X, rfl⟩ : ∃ X : Nat, x = X := ⟨x.toNat, by omega⟩
  obtain ⟨Y, rfl⟩ : ∃ Y : Nat, y = Y := ⟨y.toNat, by omega⟩
  have hX : 257 ≤ X ∧ X ≤ 286 := by omega
  have hY : 1 ≤ Y ∧ Y ≤ 30 := by omega
  rw [show ((X : Int) + Y).toNat = X + Y by omega, Int.toNat_natCast] at hdyn
  have exy : IntKind.i64.wrap ((X : Int) + Y) = ((X + Y : Nat) : Int) := by rw [Int.natCast_add]; exact IntWalk.i64_in _ (by omega)
  obtain ⟨tot, htt⟩ : ∃ tot, X + Y = tot := ⟨_, rfl⟩
  rw [htt] at hdyn exy
  have HTT := Lib.hid htt
  have HXY : Hid ((257 ≤ X ∧ X ≤ 286) ∧ (1 ≤ Y ∧ Y ≤ 30) ∧ X + Y = tot) := Lib.hid ⟨hX, hY, htt⟩
  clear htt hs hc1 hc2 h2 hxb hyb hlc hX hY
  by_cases he : ¬ e3 = 0
  · rw [rowsR_stop _ _ _ _ _ _ _ _ (fun h => he h.1), if_pos he] at hdyn
    have hz : (e3 == 0) = false := beq_eq_false_iff_ne.2 he
    have HE := Lib.hid he
    cases hdyn
    clear he
    go_enter Tryd.func50, Tryd.ntmps50
    go_wp2_with (first
      | (go_at_call 65; with_reducible refine HC1.out.mono ?_; rintro r w2 ⟨rfl, hb2, ho2⟩; have HR2 := Lib.hid hb2; have HO2 := Lib.hid ho2; clear hb2 ho2)
      | (go_at_call 65; with_reducible refine (HC2.out _ HO2.out HR2.out).mono ?_; rintro r w3 ⟨rfl, hb3, ho3⟩; have HR3 := Lib.hid hb3; have HO3 := Lib.hid (HO2.out.trans ho3); clear hb3 ho3)
      | (go_at_call 66; with_reducible refine (HL.out _ HO3.out HR3.out).mono ?_; rintro r w4 ⟨ho4, hor4⟩; rcases hor4 with hor4 | hor4; exact absurd hor4.1 HE.out; obtain ⟨_, rfl⟩ := hor4; have HO4 := Lib.hid (HO3.out.trans ho4); clear ho4))
    go_ret2
    exact ⟨HO4.out, .inr ⟨HE.out, rfl⟩⟩
  have he := Decidable.not_not.1 he
  subst he
  have HL0 : Hid (∀ W, Only2 kb kc w W → RS W kr kb kc ts A n c zs q2 v out most fx → Calls Tryd.prog 66 #[.pointer (some ⟨kr, 0, none⟩)] W fun r w' => ∃ hc, r = .returned (.tuple #[.pointer (some ⟨hc, 0, none⟩), .int .i64 0]) ∧ Only2 kb kc W w' ∧ CB w' hc cl ∧ W.heap.size ≤ hc ∧ PB w' kb kc A n c zs q3 ∧ cl.length = 19) := Lib.hid fun W h1 h2 => (HL.out W h1 h2).mono fun r w' h => by
    rcases h with ⟨h3, ⟨_, hc, h4, h5, h6, h7, h8⟩ | ⟨h4, _⟩⟩
    · exact ⟨hc, h4, h3, h5, h6, h7, h8⟩
    · exact absurd rfl h4
  obtain ⟨q4, e4, rl, hrw⟩ : ∃ a b c, rowsR zs cl (codesS cl) tot (tot + 1) q3 0 [] = (a, b, c) := ⟨_, _, _, rfl⟩
  rw [hrw] at hdyn
  dsimp only at hdyn
  have HW := Lib.hid (fun W (hW : Only2 kb kc w W) (hq : PB W kb kc A n c zs q3) hc (hcb : CB W hc cl) (hge : w.heap.size ≤ hc) (h19 : cl.length = 19) => prow kr kb kc n c q3 B most hc tot A v fx out zs cl ts W (H.out.read hW hq) (HBY.out W hW) HBB.out hn hcb (by omega) (by omega) h19 (by have := HXY.out; omega) (by have h1 := hq.pq; have h2 := hq.qn; omega) q4 e4 rl hrw)
  clear hrw
  by_cases he : ¬ e4 = 0
  · rw [if_pos he] at hdyn
    have hz : (e4 == 0) = false := beq_eq_false_iff_ne.2 he
    have HE := Lib.hid he
    cases hdyn
    clear he
    go_enter Tryd.func50, Tryd.ntmps50
    go_wp2_with (first
      | (go_at_call 65; with_reducible refine HC1.out.mono ?_; rintro r w2 ⟨rfl, hb2, ho2⟩; have HR2 := Lib.hid hb2; have HO2 := Lib.hid ho2; clear hb2 ho2)
      | (go_at_call 65; with_reducible refine (HC2.out _ HO2.out HR2.out).mono ?_; rintro r w3 ⟨rfl, hb3, ho3⟩; have HR3 := Lib.hid hb3; have HO3 := Lib.hid (HO2.out.trans ho3); clear hb3 ho3)
      | (go_at_call 66; with_reducible refine (HL0.out _ HO3.out HR3.out).mono ?_; rintro r w4 ⟨hc, rfl, ho4, hcb4, hge4, hpb4, h19⟩; have HO4 := Lib.hid (HO3.out.trans ho4); have HW4 := Lib.hid (HW.out _ HO4.out hpb4 hc hcb4 (Nat.le_trans HO3.out.size hge4) h19); clear ho4 hcb4 hge4 hpb4 h19)
      | (go_at_call 67; with_reducible refine HW4.out.mono ?_; rintro r w5 ⟨_, ho5, hor5⟩; rcases hor5 with hor5 | hor5; exact absurd hor5.1 HE.out; obtain ⟨_, rfl⟩ := hor5; have HO5 := Lib.hid (HO4.out.trans ho5); clear ho5))
    go_ret2
    exact ⟨HO5.out, .inr ⟨HE.out, rfl⟩⟩
  have he := Decidable.not_not.1 he
  subst he
  rw [if_neg (show ¬ ¬ (0 : Int) = 0 by decide)] at hdyn
  have HW0 : Hid (∀ W, Only2 kb kc w W → PB W kb kc A n c zs q3 → ∀ hc, CB W hc cl → w.heap.size ≤ hc → cl.length = 19 → Calls Tryd.prog 67 #[.pointer (some ⟨kr, 0, none⟩), .pointer (some ⟨hc, 0, none⟩), .int .i64 (tot : Int)] W fun r w' => ∃ b c5, r = .returned (.tuple #[.slice (some ⟨b, 0, none⟩) tot c5, .int .i64 0]) ∧ PB w' kb kc A n c zs q4 ∧ Only2 kb kc W w' ∧ Nums w' w'.heap.size (some ⟨b, 0, none⟩) tot c5 rl ∧ Lens rl ∧ b < w'.heap.size) := Lib.hid fun W h1 h2 hc h3 h4 h5 => (HW.out W h1 h2 hc h3 h4 h5).mono fun r w' h => by
    rcases h with ⟨g1, g2, ⟨_, v', g3, g4, g5, g6, g7⟩ | ⟨g3, _⟩⟩
    · obtain ⟨A5, c5, hv, hnm, hown⟩ := g4.nums
      obtain ⟨b, hA, hob⟩ := hown (by have := HXY.out; omega)
      subst hA
      subst hv
      rw [g6] at g3 hnm
      obtain ⟨b', o', he, hlt, _⟩ := hnm.cell (by have := HXY.out; omega)
      cases he
      exact ⟨b, c5, g3, g1, g2, hnm, g7, hlt⟩
    · exact absurd rfl g3
  have hXI : 0 < X ∧ X ≤ tot ∧ tot - X = Y := by have := HXY.out; omega
  have hCH := fun W b c5 (hc : X ≤ c5) => cut_hi W b tot c5 X hc
  have hCL := fun W b c5 (hc : X < c5) => cut_lo W b tot c5 X (by omega) hXI.1 hc
  rw [show tot - X = Y by omega] at hCL
  have HCH := Lib.hid hCH
  have HCL := Lib.hid hCL
  have HXI := Lib.hid hXI
  have HCY : Hid (∀ A5 c5 l W, Nums W W.heap.size A5 X c5 l → Lens l → mayS l = true → Calls Tryd.prog 60 #[.slice A5 X c5] W fun e w' => e = .returned (.tuple #[.pointer (some ⟨W.heap.size, 0, none⟩), .bool true]) ∧ CB w' W.heap.size l ∧ Below W.heap.size W w') := Lib.hid fun A5 c5 l W h1 h2 h3 => pcode_yes A5 X c5 _ l W h1 (Nat.le_refl _) (by have := HXY.out; omega) (fun i => (h2 i).1) (fun i => (h2 i).2) h3
  clear hXI hCH hCL
  have HCN : Hid (∀ A5 c5 l W, Nums W W.heap.size A5 X c5 l → Lens l → ¬ mayS l = true → Calls Tryd.prog 60 #[.slice A5 X c5] W fun e w' => e = .returned (.tuple #[.pointer none, .bool false]) ∧ Below W.heap.size W w') := Lib.hid fun A5 c5 l W h1 h2 h3 => pcode_no A5 X c5 _ l W h1 (Nat.le_refl _) (by have := HXY.out; omega) (fun i => (h2 i).1) (fun i => (h2 i).2) h3
  have HDY : Hid (∀ A5 c5 l W, Nums W W.heap.size A5 Y c5 l → Lens l → mayS l = true → Calls Tryd.prog 60 #[.slice A5 Y c5] W fun e w' => e = .returned (.tuple #[.pointer (some ⟨W.heap.size, 0, none⟩), .bool true]) ∧ CB w' W.heap.size l ∧ Below W.heap.size W w') := Lib.hid fun A5 c5 l W h1 h2 h3 => pcode_yes A5 Y c5 _ l W h1 (Nat.le_refl _) (by have := HXY.out; omega) (fun i => (h2 i).1) (fun i => (h2 i).2) h3
  have HDN : Hid (∀ A5 c5 l W, Nums W W.heap.size A5 Y c5 l → Lens l → ¬ mayS l = true → Calls Tryd.prog 60 #[.slice A5 Y c5] W fun e w' => e = .returned (.tuple #[.pointer none, .bool false]) ∧ Below W.heap.size W w') := Lib.hid fun A5 c5 l W h1 h2 h3 => pcode_no A5 Y c5 _ l W h1 (Nat.le_refl _) (by have := HXY.out; omega) (fun i => (h2 i).1) (fun i => (h2 i).2) h3
  have HDR : Hid (∀ W b c5 l, Nums W W.heap.size (some ⟨b, 0, none⟩) tot c5 l → Nums W W.heap.size (some ⟨b, X, none⟩) Y (c5 - X) (l.drop X)) := Lib.hid fun W b c5 l h => by
    have h2 := nums_drop h HXI.out.2.1
    rw [HXI.out.2.2] at h2
    exact h2
  have h256 : (rl.take X).getD 256 0 = rl.getD 256 0 := by have := HXY.out; simp [List.getD, show 256 < X by omega]
  rw [h256] at hdyn
  obtain ⟨z, hzz⟩ : ∃ z, rl.getD 256 0 = z := ⟨_, rfl⟩
  have HZZ := Lib.hid hzz
  rw [hzz] at hdyn
  have ht256 : (256 : Int) < tot := by have := HXY.out; omega
  clear hzz h256
  by_cases hm1 : mayS (rl.take X) = true
  · by_cases hm2 : mayS (rl.drop X) = true
    · by_cases hz0 : z = 0
      · rw [if_pos (.inr (.inr hz0))] at hdyn
        cases hdyn
        have hz : (z == 0) = true := beq_iff_eq.2 hz0
        clear hz0
        go_enter Tryd.func50, Tryd.ntmps50
        go_wp2_with (first
          | (go_at_call 65; with_reducible refine HC1.out.mono ?_; rintro r w2 ⟨rfl, hb2, ho2⟩; have HR2 := Lib.hid hb2; have HO2 := Lib.hid ho2; clear hb2 ho2)
          | (go_at_call 65; with_reducible refine (HC2.out _ HO2.out HR2.out).mono ?_; rintro r w3 ⟨rfl, hb3, ho3⟩; have HR3 := Lib.hid hb3; have HO3 := Lib.hid (HO2.out.trans ho3); clear hb3 ho3)
          | (go_at_call 66; with_reducible refine (HL0.out _ HO3.out HR3.out).mono ?_; rintro r w4 ⟨hc, rfl, ho4, hcb4, hge4, hpb4, h19⟩; have HO4 := Lib.hid (HO3.out.trans ho4); have HW4 := Lib.hid (HW0.out _ HO4.out hpb4 hc hcb4 (Nat.le_trans HO3.out.size hge4) h19); clear ho4 hcb4 hge4 hpb4 h19)
          | (go_at_call 67; with_reducible refine HW4.out.mono ?_; rintro r w5 ⟨b, c5, rfl, hp5, ho5, hn5, hl5, hb5⟩; have HO5 := Lib.hid (HO4.out.trans ho5); have HP5 := Lib.hid hp5; have HN5 := Lib.hid hn5; have HL5 := Lib.hid hl5; have HB5 := Lib.hid hb5; have hch := fun W => HCH.out W b c5 (Nat.le_trans HXI.out.2.1 hn5.cap); have hcl := fun W => HCL.out W b c5 (Nat.lt_of_lt_of_le (show X < tot by have := HXY.out; omega) hn5.cap); clear hp5 ho5 hn5 hl5 hb5)
          | (go_at_call 60; with_reducible refine (HCY.out _ c5 _ w5 (nums_take HN5.out HXI.out.2.1) (HL5.out.take X) hm1).mono ?_; rintro r w6 ⟨rfl, hc6, hb6⟩; have HB6 := Lib.hid hb6; have HN6 := Lib.hid (HN5.out.below hb6 (Nat.le_refl _)); have HC6 := Lib.hid hc6; clear hc6; clear hb6)
          | (go_at_call 60; with_reducible refine (HDY.out _ (c5 - X) _ w6 (HDR.out _ _ _ _ (HN6.out.mono1 HB6.out.size)) (HL5.out.drop X) hm2).mono ?_; rintro r w7 ⟨rfl, hc7, hb7⟩; have HB7 := Lib.hid hb7; have HB57 := Lib.hid (HB6.out.trans (hb7.mono HB6.out.size)); have k256 := nums_at (HN6.out.below hb7 HB6.out.size) 256 (show 256 < tot by have := HXY.out; omega); rw [HZZ.out] at k256; have HC7 := Lib.hid hc7; clear hc7; have HC67 := Lib.hid (HC6.out.same (hb7.block _ HC6.out.lt)); clear hb7))
        go_ret2
        exact ⟨HO5.out.trans (Only2.of_below (HB57.out) kb kc), .inr ⟨by decide, rfl⟩⟩
      · rw [if_neg (fun h => h.elim (fun h => by rw [hm1] at h; cases h) (fun h => h.elim (fun h => by rw [hm2] at h; cases h) hz0))] at hdyn
        cases hdyn
        have hz : (z == 0) = false := beq_eq_false_iff_ne.2 hz0
        clear hz0
        go_enter Tryd.func50, Tryd.ntmps50
        go_wp2_with (first
          | (go_at_call 65; with_reducible refine HC1.out.mono ?_; rintro r w2 ⟨rfl, hb2, ho2⟩; have HR2 := Lib.hid hb2; have HO2 := Lib.hid ho2; clear hb2 ho2)
          | (go_at_call 65; with_reducible refine (HC2.out _ HO2.out HR2.out).mono ?_; rintro r w3 ⟨rfl, hb3, ho3⟩; have HR3 := Lib.hid hb3; have HO3 := Lib.hid (HO2.out.trans ho3); clear hb3 ho3)
          | (go_at_call 66; with_reducible refine (HL0.out _ HO3.out HR3.out).mono ?_; rintro r w4 ⟨hc, rfl, ho4, hcb4, hge4, hpb4, h19⟩; have HO4 := Lib.hid (HO3.out.trans ho4); have HW4 := Lib.hid (HW0.out _ HO4.out hpb4 hc hcb4 (Nat.le_trans HO3.out.size hge4) h19); clear ho4 hcb4 hge4 hpb4 h19)
          | (go_at_call 67; with_reducible refine HW4.out.mono ?_; rintro r w5 ⟨b, c5, rfl, hp5, ho5, hn5, hl5, hb5⟩; have HO5 := Lib.hid (HO4.out.trans ho5); have HP5 := Lib.hid hp5; have HN5 := Lib.hid hn5; have HL5 := Lib.hid hl5; have HB5 := Lib.hid hb5; have hch := fun W => HCH.out W b c5 (Nat.le_trans HXI.out.2.1 hn5.cap); have hcl := fun W => HCL.out W b c5 (Nat.lt_of_lt_of_le (show X < tot by have := HXY.out; omega) hn5.cap); clear hp5 ho5 hn5 hl5 hb5)
          | (go_at_call 60; with_reducible refine (HCY.out _ c5 _ w5 (nums_take HN5.out HXI.out.2.1) (HL5.out.take X) hm1).mono ?_; rintro r w6 ⟨rfl, hc6, hb6⟩; have HB6 := Lib.hid hb6; have HN6 := Lib.hid (HN5.out.below hb6 (Nat.le_refl _)); have HC6 := Lib.hid hc6; clear hc6; clear hb6)
          | (go_at_call 60; with_reducible refine (HDY.out _ (c5 - X) _ w6 (HDR.out _ _ _ _ (HN6.out.mono1 HB6.out.size)) (HL5.out.drop X) hm2).mono ?_; rintro r w7 ⟨rfl, hc7, hb7⟩; have HB7 := Lib.hid hb7; have HB57 := Lib.hid (HB6.out.trans (hb7.mono HB6.out.size)); have k256 := nums_at (HN6.out.below hb7 HB6.out.size) 256 (show 256 < tot by have := HXY.out; omega); rw [HZZ.out] at k256; have HC7 := Lib.hid hc7; clear hc7; have HC67 := Lib.hid (HC6.out.same (hb7.block _ HC6.out.lt)); clear hb7))
        go_ret2
        have hb9 := (Below.refl w7.heap.size w7).alloc (Nat.le_refl _) (.cells #[.pointer (some ⟨w5.heap.size, 0, none⟩), .pointer (some ⟨w6.heap.size, 0, none⟩)] 97)
        have hb59 := HB57.out.trans (hb9.mono HB57.out.size)
        exact ⟨HO5.out.trans (Only2.of_below hb59 kb kc), .inl ⟨by first | rfl | trivial, w7.heap.size, w5.heap.size, w6.heap.size, rfl, heap_alloc_new w7 _, HC67.out.same (hb9.block _ HC67.out.lt), HC7.out.same (hb9.block _ HC7.out.lt), Nat.le_trans HO5.out.size HB57.out.size, HO5.out.size, Nat.le_trans HO5.out.size HB6.out.size, HP5.out.below hb59 HP5.out.lt HP5.out.cur.lt⟩⟩
    · rw [if_pos (.inr (.inl (by simpa using hm2)))] at hdyn
      cases hdyn
      go_enter Tryd.func50, Tryd.ntmps50
      go_wp2_with (first
        | (go_at_call 65; with_reducible refine HC1.out.mono ?_; rintro r w2 ⟨rfl, hb2, ho2⟩; have HR2 := Lib.hid hb2; have HO2 := Lib.hid ho2; clear hb2 ho2)
        | (go_at_call 65; with_reducible refine (HC2.out _ HO2.out HR2.out).mono ?_; rintro r w3 ⟨rfl, hb3, ho3⟩; have HR3 := Lib.hid hb3; have HO3 := Lib.hid (HO2.out.trans ho3); clear hb3 ho3)
        | (go_at_call 66; with_reducible refine (HL0.out _ HO3.out HR3.out).mono ?_; rintro r w4 ⟨hc, rfl, ho4, hcb4, hge4, hpb4, h19⟩; have HO4 := Lib.hid (HO3.out.trans ho4); have HW4 := Lib.hid (HW0.out _ HO4.out hpb4 hc hcb4 (Nat.le_trans HO3.out.size hge4) h19); clear ho4 hcb4 hge4 hpb4 h19)
        | (go_at_call 67; with_reducible refine HW4.out.mono ?_; rintro r w5 ⟨b, c5, rfl, hp5, ho5, hn5, hl5, hb5⟩; have HO5 := Lib.hid (HO4.out.trans ho5); have HP5 := Lib.hid hp5; have HN5 := Lib.hid hn5; have HL5 := Lib.hid hl5; have HB5 := Lib.hid hb5; have hch := fun W => HCH.out W b c5 (Nat.le_trans HXI.out.2.1 hn5.cap); have hcl := fun W => HCL.out W b c5 (Nat.lt_of_lt_of_le (show X < tot by have := HXY.out; omega) hn5.cap); clear hp5 ho5 hn5 hl5 hb5)
        | (go_at_call 60; with_reducible refine (HCY.out _ c5 _ w5 (nums_take HN5.out HXI.out.2.1) (HL5.out.take X) hm1).mono ?_; rintro r w6 ⟨rfl, hc6, hb6⟩; have HB6 := Lib.hid hb6; have HN6 := Lib.hid (HN5.out.below hb6 (Nat.le_refl _)); have HC6 := Lib.hid hc6; clear hc6; clear hb6)
        | (go_at_call 60; with_reducible refine (HDN.out _ (c5 - X) _ w6 (HDR.out _ _ _ _ (HN6.out.mono1 HB6.out.size)) (HL5.out.drop X) hm2).mono ?_; rintro r w7 ⟨rfl, hb7⟩; have HB7 := Lib.hid hb7; have HB57 := Lib.hid (HB6.out.trans (hb7.mono HB6.out.size)); have k256 := nums_at (HN6.out.below hb7 HB6.out.size) 256 (show 256 < tot by have := HXY.out; omega); rw [HZZ.out] at k256; clear hb7))
      go_ret2
      exact ⟨HO5.out.trans (Only2.of_below (HB57.out) kb kc), .inr ⟨by decide, rfl⟩⟩
  · rw [if_pos (.inl (by simpa using hm1))] at hdyn
    cases hdyn
    by_cases hm2 : mayS (rl.drop X) = true
    · go_enter Tryd.func50, Tryd.ntmps50
      go_wp2_with (first
        | (go_at_call 65; with_reducible refine HC1.out.mono ?_; rintro r w2 ⟨rfl, hb2, ho2⟩; have HR2 := Lib.hid hb2; have HO2 := Lib.hid ho2; clear hb2 ho2)
        | (go_at_call 65; with_reducible refine (HC2.out _ HO2.out HR2.out).mono ?_; rintro r w3 ⟨rfl, hb3, ho3⟩; have HR3 := Lib.hid hb3; have HO3 := Lib.hid (HO2.out.trans ho3); clear hb3 ho3)
        | (go_at_call 66; with_reducible refine (HL0.out _ HO3.out HR3.out).mono ?_; rintro r w4 ⟨hc, rfl, ho4, hcb4, hge4, hpb4, h19⟩; have HO4 := Lib.hid (HO3.out.trans ho4); have HW4 := Lib.hid (HW0.out _ HO4.out hpb4 hc hcb4 (Nat.le_trans HO3.out.size hge4) h19); clear ho4 hcb4 hge4 hpb4 h19)
        | (go_at_call 67; with_reducible refine HW4.out.mono ?_; rintro r w5 ⟨b, c5, rfl, hp5, ho5, hn5, hl5, hb5⟩; have HO5 := Lib.hid (HO4.out.trans ho5); have HP5 := Lib.hid hp5; have HN5 := Lib.hid hn5; have HL5 := Lib.hid hl5; have HB5 := Lib.hid hb5; have hch := fun W => HCH.out W b c5 (Nat.le_trans HXI.out.2.1 hn5.cap); have hcl := fun W => HCL.out W b c5 (Nat.lt_of_lt_of_le (show X < tot by have := HXY.out; omega) hn5.cap); clear hp5 ho5 hn5 hl5 hb5)
        | (go_at_call 60; with_reducible refine (HCN.out _ c5 _ w5 (nums_take HN5.out HXI.out.2.1) (HL5.out.take X) hm1).mono ?_; rintro r w6 ⟨rfl, hb6⟩; have HB6 := Lib.hid hb6; have HN6 := Lib.hid (HN5.out.below hb6 (Nat.le_refl _)); clear hb6)
        | (go_at_call 60; with_reducible refine (HDY.out _ (c5 - X) _ w6 (HDR.out _ _ _ _ (HN6.out.mono1 HB6.out.size)) (HL5.out.drop X) hm2).mono ?_; rintro r w7 ⟨rfl, hc7, hb7⟩; have HB7 := Lib.hid hb7; have HB57 := Lib.hid (HB6.out.trans (hb7.mono HB6.out.size)); have k256 := nums_at (HN6.out.below hb7 HB6.out.size) 256 (show 256 < tot by have := HXY.out; omega); rw [HZZ.out] at k256; have HC7 := Lib.hid hc7; clear hc7; clear hb7))
      go_ret2
      exact ⟨HO5.out.trans (Only2.of_below (HB57.out) kb kc), .inr ⟨by decide, rfl⟩⟩
    · go_enter Tryd.func50, Tryd.ntmps50
      go_wp2_with (first
        | (go_at_call 65; with_reducible refine HC1.out.mono ?_; rintro r w2 ⟨rfl, hb2, ho2⟩; have HR2 := Lib.hid hb2; have HO2 := Lib.hid ho2; clear hb2 ho2)
        | (go_at_call 65; with_reducible refine (HC2.out _ HO2.out HR2.out).mono ?_; rintro r w3 ⟨rfl, hb3, ho3⟩; have HR3 := Lib.hid hb3; have HO3 := Lib.hid (HO2.out.trans ho3); clear hb3 ho3)
        | (go_at_call 66; with_reducible refine (HL0.out _ HO3.out HR3.out).mono ?_; rintro r w4 ⟨hc, rfl, ho4, hcb4, hge4, hpb4, h19⟩; have HO4 := Lib.hid (HO3.out.trans ho4); have HW4 := Lib.hid (HW0.out _ HO4.out hpb4 hc hcb4 (Nat.le_trans HO3.out.size hge4) h19); clear ho4 hcb4 hge4 hpb4 h19)
        | (go_at_call 67; with_reducible refine HW4.out.mono ?_; rintro r w5 ⟨b, c5, rfl, hp5, ho5, hn5, hl5, hb5⟩; have HO5 := Lib.hid (HO4.out.trans ho5); have HP5 := Lib.hid hp5; have HN5 := Lib.hid hn5; have HL5 := Lib.hid hl5; have HB5 := Lib.hid hb5; have hch := fun W => HCH.out W b c5 (Nat.le_trans HXI.out.2.1 hn5.cap); have hcl := fun W => HCL.out W b c5 (Nat.lt_of_lt_of_le (show X < tot by have := HXY.out; omega) hn5.cap); clear hp5 ho5 hn5 hl5 hb5)
        | (go_at_call 60; with_reducible refine (HCN.out _ c5 _ w5 (nums_take HN5.out HXI.out.2.1) (HL5.out.take X) hm1).mono ?_; rintro r w6 ⟨rfl, hb6⟩; have HB6 := Lib.hid hb6; have HN6 := Lib.hid (HN5.out.below hb6 (Nat.le_refl _)); clear hb6)
        | (go_at_call 60; with_reducible refine (HDN.out _ (c5 - X) _ w6 (HDR.out _ _ _ _ (HN6.out.mono1 HB6.out.size)) (HL5.out.drop X) hm2).mono ?_; rintro r w7 ⟨rfl, hb7⟩; have HB7 := Lib.hid hb7; have HB57 := Lib.hid (HB6.out.trans (hb7.mono HB6.out.size)); have k256 := nums_at (HN6.out.below hb7 HB6.out.size) 256 (show 256 < tot by have := HXY.out; omega); rw [HZZ.out] at k256; clear hb7))
      go_ret2
      exact ⟨HO5.out.trans (Only2.of_below (HB57.out) kb kc), .inr ⟨by decide, rfl⟩⟩
end Go.Proofs.YtebbakfjjjamkaaDoor
